import PyProof.Rows.All
import Wide.All
import OpenK.AllK
import Wide.FinOn
import HandS.ForMost
import HandS.Wide
import HandS.OwnEq
import HandS.Style
import HandS.ForExc
import HandS.ExcInit
import HandS.ExcIs
import HandS.ExcValue
import HandS.IsInst
import HandS.Exc
import HandS.ExcOwn
import HandS.TryOnly
import HandS.Words
import HandS.Walk
import HandS.WordsExc
import HandS.TupSets
import HandS.SortRule
import HandS.TupLe
import PyProof.ReprRoads
import PyProof.ReprLen
import HandS.Gcd
import HandS.Deep
import HandS.Dict
import HandS.Conv
import HandS.WideBits
import HandS.Flow
import HandS.SetBool
import HandS.Strs
import HandS.Base
import PyProof.LongRange
import PyProof.WalksMore
import PySem.Challenge.RW_growfences_k12_rows_of_stakes
set_option Elab.async false
set_option linter.all false
set_option maxRecDepth 100000
set_option maxHeartbeats 2000000
/-! a def's promise while no repr is under way (guards: none) -/
namespace L2
open PySem PySem.Spec PyProof.Rows
/-- as FnOk, where no guarded built-in is under way -/
structure FnG (P : Program) (w : World) (K : PySem.W.Frag) (mg : Str → Option Value) (base : Heap) (CX : CXT) (k : Nat) (f : Addr) (fd : FuncData) (ps : List Str) (sp : Sp) : Prop where
  len : ∀ vs H Q E, sp vs H Q E → vs.length = ps.length
  go : ∀ (A : Around) (outer : List Env) (s : Shared) (H : Hp) (args : Args) (us : List Value) (vs : List V) (Q : VK) (E : XK), A.guards = some [] → Room k A → Env0 P w K mg base A outer s H → BindsTo s fd args (ps.zip us) → Vals vs us → sp vs H Q E →
    codeAny (model P w) A (.call (.ref f) args) (CR CX outer P w H s Q E) s
section
variable {P : Program} {w : World} {K : PySem.W.Frag} {mg : Str → Option Value} {base : Heap} {CX : CXT} {k : Nat} {f : Addr} {fd : FuncData} {ps : List Str} {sp : Sp}
theorem FnOk.g (F : FnOk P w K mg base CX k f fd ps sp) : FnG P w K mg base CX k f fd ps sp := ⟨F.len, fun A outer s H args us vs Q E _ => F.run A outer s H args us vs Q E⟩
theorem FnG.mono {j : Nat} (F : FnG P w K mg base CX j f fd ps sp) (h : j ≤ k) : FnG P w K mg base CX k f fd ps sp := ⟨F.len, fun A outer s H args us vs Q E g hr => F.go A outer s H args us vs Q E g (hr.mono h)⟩
/-- from the body, met with the known guards -/
theorem Fun.okG {x qual : Str} {st : Stmt} {N : List Str} (F : Fun K x qual st f fd) (S : FnScope N ps (defScope st)) (len : ∀ vs H Q E, sp vs H Q E → vs.length = ps.length)
    (hb : ∀ (cdv : Value) (A : Around) (outer : List Env) (s : Shared) (H : Hp) (vs : List V) (Q : VK) (E : XK), (A.deeper (envOfC qual (defScope st) s.heap.objs.size f cdv)).guards = some [] → Room k (A.deeper (envOfC qual (defScope st) s.heap.objs.size f cdv)) → sp vs H Q E →
      ∃ t, PSs (cxOf CX0 P w K mg base N qual (defScope st) f cdv A outer s H E).nox (defBody st) t ∧ t { nx := fun _ H' => Q .non H', rt := Q } (start N vs) H) : FnG P w K mg base CX0 (k + 1) f fd ps sp := by
  obtain ⟨oc, od, kV, doc, pm, an, cdv, ct, osl, rfl, lk, hcd⟩ := F.ex
  refine ⟨len, fun A outer s H args us vs Q E hgd hr e0 hbi rel hsp => ?_⟩
  have sz := len _ _ _ _ hsp
  have kp : ∀ b o, base.get? b = some o → s.heap.get? b = some o := fun b o e => (e0.bs b o e).1
  have KX : K.In s.heap := e0.mod.kin.keeps kp
  refine codeAny_call_function hr.depth (KX _ _ lk) rfl S.co S.gen rfl (PySem.W.codeRec_of KX hcd) (hbi _ _ _ _ ?_)
  refine wpAny_newFunctionEnv_cells S.kind (fun y hy => ?_) fun env he s1 x => ?_
  · obtain ⟨n, v⟩ := y
    rcases S.par n (List.of_mem_zip hy).1 with q | q
    · exact .inl q
    · exact .inr ⟨q, PySem.W.cellsFrom_some _ _ _ (.inl q)⟩
  subst he
  refine ⟨(e0.mod.nolimit.keeps kp).keeps x.toInCall.keep, codeAny_func ?_⟩
  obtain ⟨t, ht, hq⟩ := hb cdv A outer s H vs Q E hgd (hr.deeper _) hsp
  have I0 : Inv (cxOf CX0 P w K mg base N qual (defScope st) f cdv A outer s H E) [] (start N vs) H s1 := inv_start S hr.hd e0 sz rel x
  refine wpAny_mono (ht.nox.run [] s1 (start N vs) H _ I0 hq) (fun fl s' z => ?_) fun e s' z => z
  match fl, z with
  | .ret u, ⟨v, σ', H', J, rv, q⟩ => exact ⟨v, H', J.os, J.bare, J.base, J.hok, rv, q⟩
  | .next, ⟨σ', H', J, q⟩ => exact ⟨.non, H', J.os, J.bare, J.base, J.hok, rfl, q⟩
  | .brk, ⟨_, _, _, q⟩ => exact q.elim
  | .cont, ⟨_, _, _, q⟩ => exact q.elim
end
section
variable {X : Cx} {CX : CXT} {k : Nat} {f : Addr} {fd : FuncData} {ps : List Str} {sp : Sp} {ds : List Value} {dvs : List V} {E : XK} {x : Str} {p pos : Pos} {e : Expr} {es : List Expr} {t : TA}
theorem run_fnG {pins : List (Addr × Obj)} {σ : St} {H : Hp} {s : Shared} {Q : VK} {us : List Value} {vs : List V} (F : FnG X.prog X.w X.K X.mg X.base CX k f fd ps sp) (hgd : X.A.guards = some []) (hr : Room k X.A) (hb : Binds X.K fd ps ds) (hd : Vals dvs ds) (hx : Passes CX X E)
    (I : Inv X pins σ H s) (r : Vals vs us) (h : sp (vs ++ dvs) H Q E) : wpAny (model X.prog X.w) X.A (call (.ref f) us) (EP X pins σ Q) X.xe s := by
  have rr : Vals (vs ++ dvs) (us ++ ds) := r.append hd
  have hl : (us ++ ds).length = ps.length := rr.length.symm.trans (F.len _ _ _ _ h)
  refine wpAny_call (codeAny_mono (F.go X.A X.stack s H ⟨us, []⟩ (us ++ ds) (vs ++ dvs) Q E hgd hr I.env0 (hb s us I.kIn hl) rr h) fun r s' z => ?_)
  match r, z with
  | .error e, z => exact hx pins σ H s e s' I z
  | .ok (.ret u), z => exact I.after z
  | .ok .next, z => exact z.elim
  | .ok .brk, z => exact z.elim
  | .ok .cont, z => exact z.elim
theorem pe_callG (F : FnG X.prog X.w X.K X.mg X.base CX k f fd ps sp) (hgd : X.A.guards = some []) (hr : Room k X.A) (hg : Gl X x) (hm : X.mg x = some (.ref f)) (hk : PySem.W.keepIn X.K (.ref f) = true) (hb : Binds X.K fd ps ds) (hd : Vals dvs ds) (hx : Passes CX X E)
    (ha : PA X (e :: es) t) (hdb : (x == ("__debug__" : Str)) = false := by decide) (he : starEach (e :: es) X.env = (false, eval e X.env) :: starEach es X.env := by rfl) (hpl : (backTo pos (starEach es X.env)).any (·.1) = false := by rfl) :
    PE X (.Call (.Name x p) (e :: es) [] pos) (tCall sp dvs E t) :=
  ⟨fun pins s σ H Q I h => wpAny_Call_Name_kw (ld_glob I hg hm (PySem.W.callWith_K (h₀ := X.base) I.ok.mod.kin hk (thn (ha.run pos pins s σ H _ I h) fun _ _ ⟨_, _, I1, r, q⟩ => ⟨I1.kIn, run_fnG F hgd hr hb hd hx I1 r q⟩) he hpl) hdb)⟩
end
/-- nothing but the script is tracked, and it is never written -/
theorem law_callG {P : Program} {w : World} {K : PySem.W.Frag} {mg mb : Str → Option Value} {k : Nat} {fa a : Addr} {fd : FuncData} {x : Str} {sp : Sp} {s₁ : Shared} {vs : List Value} {ns : List Int}
    (KX : K.In s₁.heap) (hns : s₁.heap.Ns mainGlobals mg) (hb : s₁.heap.Ns builtinsNs mb) (hbb : ∀ x : Str, x ≠ "__name__" → mb x = bootBuiltins x) (hlim : s₁.heap.NoLimit) (hg : s₁.gens = #[])
    (ha : s₁.heap.get? a = some { cls := .type "list", data := .seq vs.toArray }) (hi : IntsAre vs ns) (hl : ns.length ≤ sizeLine) (hr : Room k callerA)
    (F : ∀ base : Heap, K.In base → base.Ns mainGlobals mg → FnG P w K mg base CX0 k fa fd [x] sp) (hbind : ∀ (s : Shared) (u : Value), BindsTo s fd ⟨[u], []⟩ [(x, u)])
    (hsp : ∀ H : Hp, Only H → SqL K H a (ns.map V.int) → sp [.ref a] H (fun v _ => v = .bl true) fun _ _ _ => False) :
    codeAny (model P w) callerA (.call (.ref fa) ⟨[.ref a], []⟩) (fun r s' => r = .ok (.ret (.bool true)) ∧ OldK s₁.heap s'.heap ∧ s'.os = s₁.os ∧ AllBare s'.gens) s₁ := by
  have rv := vals_ints hi
  have run : ∀ H : Hp, Only H → (∀ b, H b ≠ none → b = a ∧ K.lookup a = none) → SqL K H a (ns.map V.int) → HOk P w H s₁.heap →
      codeAny (model P w) callerA (.call (.ref fa) ⟨[.ref a], []⟩) (fun r s' => r = .ok (.ret (.bool true)) ∧ OldK s₁.heap s'.heap ∧ s'.os = s₁.os ∧ AllBare s'.gens) s₁ := by
    intro H hO hA hS hok
    have free : ∀ {b : Addr}, b ≠ a → H b = none := fun {b} hb => Classical.byContradiction fun z => hb (hA b z).1
    have dictFree : ∀ {b : Addr} {o : Obj} {es : Array DictEntry} {ep : Nat}, s₁.heap.get? b = some o → o.data = .dict es ep → H b = none := fun {b o es ep} e1 e2 => free fun z => by
      rw [z] at e1
      rw [ha] at e1
      cases e1
      cases e2
    have down : ∀ {b : Addr} {m : Str → Option Value}, s₁.heap.Ns b m → (hidT s₁.heap H).Ns b m := fun {b m} n => by
      obtain ⟨o, es, ep, e1, e2, r⟩ := n
      exact ⟨o, es, ep, hidT_get e1 (dictFree e1 e2), e2, r⟩
    have kin : K.In (hidT s₁.heap H) := fun b o e => hidT_get (KX b o e) (Classical.byContradiction fun z => by
      have y := hA b z
      rw [y.1, y.2] at e
      cases e)
    have e0 : Env0 P w K mg (hidT s₁.heap H) callerA [] s₁ H := ⟨rfl, ⟨kin, down hns, ⟨mb, down hb, hbb⟩, by
      obtain ⟨mc, h1, h2⟩ := hlim
      exact ⟨mc, down h1, h2⟩⟩, fun _ _ e => of_hidT e, Nat.le_of_eq (hidT_size _ _), trivial, fun b hb => absurd (show b ∈ ([] : List Addr) from hb) (by simp), hok, .of_eq hg⟩
    refine codeAny_mono ((F _ kin (down hns)).go callerA [] s₁ H ⟨[.ref a], []⟩ [.ref a] [.ref a] _ _ rfl hr e0 (hbind s₁ (.ref a)) (.cons rfl .nil) (hsp H hO hS)) fun r s' z => ?_
    match r, z with
    | .error e, z => exact z.elim
    | .ok .next, z => exact z.elim
    | .ok .brk, z => exact z.elim
    | .ok .cont, z => exact z.elim
    | .ok (.ret u), ⟨v, H', os, bare, un, hok', rel, hv⟩ =>
      have hv' : v = .bl true := hv
      subst hv'
      obtain rfl : u = Value.bool true := rel
      refine ⟨rfl, OldK.of_keep fun b o e => ?_, os, bare⟩
      rcases hO b with n | ⟨ob, xs, n⟩
      · exact un.keep b o e n (by simp [frs]) (by simp)
      · have y1 := (hok b _ n).1
        have y2 := (hok' b _ (un.frzs b ob _ n)).1
        rw [e] at y1
        cases y1
        exact y2
  have zl : (ns.map V.int).length ≤ sizeLine := by rw [List.length_map]; exact hl
  by_cases hk : K.lookup a = none
  · refine run (fun b => if b = a then some (.frz { cls := .type "list", data := .seq vs.toArray } (.lst (ns.map V.int))) else none) (fun b => ?_) (fun b z => ?_) (.inl (.inr ⟨_, if_pos rfl⟩)) fun b u z => ?_
    · by_cases e : b = a
      · exact .inr ⟨_, _, if_pos e⟩
      · exact .inl (if_neg e)
    · by_cases e : b = a
      · exact ⟨e, hk⟩
      · exact absurd (if_neg e) z
    · by_cases e : b = a
      · subst e
        cases (if_pos rfl).symm.trans z
        exact ⟨ha, zl, vs, _, rv, ha⟩
      · cases (if_neg e).symm.trans z
  · cases q : K.lookup a with
    | none => exact absurd q hk
    | some o =>
      have e := (KX a o q).symm.trans ha
      cases e
      exact run (fun _ => none) (fun _ => .inl rfl) (fun b z => absurd rfl z) (.inr ⟨_, vs.toArray, _, q, rfl, rfl, rfl, by rw [List.size_toArray, hi.length]; exact hl, by simpa using rv⟩) fun b u z => nomatch z
theorem walk_ofG {l : PySem.W.OpenLaw} {n k : Nat} {q : Program} {loose : List Str} {XP : (Str → Option Value) → Heap → Prop} {YP : World → Heap → Prop} {d : DefRec} {K : Params → PySem.W.Frag} {sp : World → Sp} {x : Str}
    (hn : l.most = some n) (hn2 : n ≤ sizeLine) (hdf : d.params.defaults = []) (hr : Room k callerA) (hY : ∀ (w : World) (h : Heap), YP w h → (K w.params).In h)
    (F : ∀ (w : World) (mg : Str → Option Value) (fa : Addr) (h : Heap), (K w.params).In h → h.Ns mainGlobals mg → mg d.name = some (.ref fa) → ∃ fd : FuncData, (∀ (s : Shared) (u : Value), BindsTo s fd ⟨[u], []⟩ [(x, u)]) ∧
        ∀ base : Heap, (K w.params).In base → base.Ns mainGlobals mg → FnG l.prog w (K w.params) mg base CX0 k fa fd [x] (sp w))
    (hsp : ∀ (w : World) (H : Hp) (a : Addr) (ns : List Int), ns.length ≤ n → Only H → SqL (K w.params) H a (ns.map V.int) → sp w [.ref a] H (fun v _ => v = .bl true) fun _ _ _ => False) :
    PySem.W.WalkO q loose XP YP l.row.toRowW d [] (fun f vs => PySem.call f vs) :=
  Att.attach_call hn hdf fun w s₀ s₁ mg mb fa o pm cd doc a vs ns G Y ho hd hcd hmg hobj hints hlen hg => by
    obtain ⟨fd, hb, hF⟩ := F w mg fa _ (hY w _ Y) G.T.g hmg
    exact law_callG (hY w _ Y) G.T.g G.T.b G.T.builtins G.T.nolimit hg hobj hints (Nat.le_trans hlen hn2) hr hF hb fun H hO hS => hsp w H a ns hlen hO hS
end L2
set_option Elab.async false
set_option linter.all false
set_option maxRecDepth 100000
set_option maxHeartbeats 1000000
set_option exponentiation.threshold 20000
namespace L2
open PySem PySem.Spec PyProof.Rows
/-! ** of greater ints -/
def CPowW (i j : Int) : Prop := 0 ≤ j ∧ ((i.natAbs.log2 + 1 : Nat) : Int) * j ≤ 2 ^ 27
theorem op_powW {X : Cx} : OpR X (binaryOp .Pow) (rI CPowW fun i j => .int (i ^ j.toNat)) := opI fun i j _ _ _ _ _ hc q => by
  refine PyProof.Rows.pow_int hc.1 (Int.le_trans ?_ hc.2) q
  refine Int.mul_le_mul_of_nonneg_right ?_ hc.1
  unfold Builtin.Int.intBits
  split <;> omega
theorem pow_ok {i j : Int} {b : Nat} (hj : 0 ≤ j) (hj2 : j ≤ 3) (hb : i.natAbs < 2 ^ b) (h0 : 0 < b) (h1 : b ≤ 1000) : CPowW i j := by
  have h := PySem.Flt.log2_lt_of h0 hb
  refine ⟨hj, ?_⟩
  have : ((i.natAbs.log2 + 1 : Nat) : Int) ≤ 1000 := by omega
  have h3 : ((i.natAbs.log2 + 1 : Nat) : Int) * j ≤ 1000 * 3 := Int.mul_le_mul this hj2 hj (by decide)
  exact Int.le_trans h3 (by decide)
/-! heaps -/
theorem same_new {H : Hp} {p : Addr} {o : HO} (h : H p = none) : Same H (upd H p o) := fun b x e => by
  rw [upd_ne (ne_of_none e h)]
  exact e
theorem cut_to (xs : List V) (n : Nat) : cutV xs none (some (n : Int)) = xs.take n := by
  unfold cutV
  rw [HT.sIx_none, show HT.sIx xs.length xs.length (some (n : Int)) = min n xs.length from HT.sIx_nat xs.length xs.length n, List.drop_zero, Nat.sub_zero, ← List.take_take, List.take_length]
theorem cut_last (xs : List V) : cutV xs none (some (-1)) = xs.dropLast := by
  unfold cutV
  rw [HT.sIx_none, List.drop_zero, Nat.sub_zero]
  have e : HT.sIx xs.length xs.length (some (-1)) = xs.length - 1 := by
    unfold HT.sIx
    simp only
    split <;> omega
  rw [e, List.dropLast_eq_take]
/-- all but what stands at p is as it was -/
def SameX (p : Addr) (H H' : Hp) : Prop := ∀ b o, b ≠ p → H b = some o → H' b = some o
theorem Same.x {p : Addr} {H H' : Hp} (s : Same H H') : SameX p H H' := fun b o _ e => s b o e
theorem SameX.trans {p : Addr} {H H1 H2 : Hp} (a : SameX p H H1) (b : SameX p H1 H2) : SameX p H H2 := fun c o n e => b c o n (a c o n e)
theorem SameX.put {p : Addr} {H : Hp} {o : HO} : SameX p H (upd H p o) := fun b o' n e => by
  rw [upd_ne n]
  exact e
/-- p is new: what was there before is as it was -/
theorem SameX.same {p : Addr} {H H' : Hp} (s : SameX p H H') (n : H p = none) : Same H H' := fun b o e => s b o (ne_of_none e n) e
theorem Same.seqT {K : PySem.W.Frag} {H H' : Hp} {a : Addr} {xs : List V} (e : Same H H') (h : SqT K H a xs) : SqT K H' a xs := SqT.ext h e
theorem hu_of64 {A : Around} {k : Nat} (hr : Room k A) : A.units + 64 < cLine := by
  have := hr.un
  omega
theorem yesT {σ : L2.St} {H : Hp} {R N : Hp → Prop} (h : R H) : tYes σ H fun b H3 => if b = true then R H3 else N H3 := by
  show if true = true then R H else N H
  rw [if_pos rfl]
  exact h
theorem sz20 {n : Nat} (h : n ≤ 4096) : n ≤ sizeLine := Nat.le_trans h (by decide)
/-- a statement that is never met -/
theorem ps_no {X : Cx} {st : Stmt} : PS X st (fun _ _ _ => False) := ⟨fun _ _ _ _ _ _ h => h.elim⟩
end L2
namespace L2
open PySem PySem.Spec PyProof.Rows
theorem pe_and1 {X : Cx} {a : Expr} {t : TE} {pos : Pos} (ha : PE X a t) : PE X (.BoolOp .And [a] pos) t := ⟨fun pins s σ H Q I h => by
  have z := ha.run pins s σ H Q I h
  first
    | exact z
    | (unfold eval; exact z)⟩
theorem pe_or1 {X : Cx} {a : Expr} {t : TE} {pos : Pos} (ha : PE X a t) : PE X (.BoolOp .Or [a] pos) t := ⟨fun pins s σ H Q I h => by
  have z := ha.run pins s σ H Q I h
  first
    | exact z
    | (unfold eval; exact z)⟩
/-- a tuple, a list that is read: its type -/
theorem ty_tup {K : PySem.W.Frag} {H : Hp} {a : Addr} {xs : List V} (h : SqT K H a xs) : TyX K H (.ref a) (.type "tuple") := by
  rcases h with (h | ⟨o, h⟩) | ⟨o, its, n, h1, h2, _⟩
  · exact .base (.tup h)
  · exact .fTuple h
  · exact .kTuple h1 h2
theorem ty_lst {K : PySem.W.Frag} {H : Hp} {a : Addr} {xs : List V} (h : SqL K H a xs) : TyX K H (.ref a) (.type "list") := by
  rcases h with (h | ⟨o, h⟩) | ⟨o, its, n, h1, h2, _⟩
  · exact .base (.lst h)
  · exact .base (.frz h)
  · exact .kList h1 h2
end L2
set_option linter.all false
/-! the plane: cross products, the order by x and then y, a chain that turns left -/
namespace Hull
abbrev P := Int × Int
/-- the cross product of b - a and c - a -/
def turn (a b c : P) : Int := (b.1 - a.1) * (c.2 - a.2) - (b.2 - a.2) * (c.1 - a.1)
def Lt (a b : P) : Prop := a.1 < b.1 ∨ (a.1 = b.1 ∧ a.2 < b.2)
instance (a b : P) : Decidable (Lt a b) := by unfold Lt; exact inferInstance
theorem Lt.irrefl {a : P} (h : Lt a a) : False := by unfold Lt at h; omega
theorem Lt.trans {a b c : P} (h : Lt a b) (g : Lt b c) : Lt a c := by unfold Lt at *; omega
theorem Lt.ne {a b : P} (h : Lt a b) : a ≠ b := fun e => by subst e; exact h.irrefl
theorem Lt.asymm {a b : P} (h : Lt a b) (g : Lt b a) : False := (h.trans g).irrefl
theorem Lt.total (a b : P) : Lt a b ∨ a = b ∨ Lt b a := by
  unfold Lt
  by_cases h : a.1 < b.1
  · exact .inl (.inl h)
  · by_cases h2 : b.1 < a.1
    · exact .inr (.inr (.inl h2))
    · have e : a.1 = b.1 := by omega
      by_cases g : a.2 < b.2
      · exact .inl (.inr ⟨e, g⟩)
      · by_cases g2 : b.2 < a.2
        · exact .inr (.inr (.inr ⟨e.symm, g2⟩))
        · exact .inr (.inl (Prod.ext e (by omega)))
/-- vectors -/
def X (u v : P) : Int := u.1 * v.2 - u.2 * v.1
def Pos (u : P) : Prop := 0 < u.1 ∨ (u.1 = 0 ∧ 0 < u.2)
def sub (b a : P) : P := (b.1 - a.1, b.2 - a.2)
theorem pos_sub {a b : P} : Pos (sub b a) ↔ Lt a b := by unfold Pos sub Lt; constructor <;> intro h <;> dsimp only at * <;> omega
theorem turn_eq (a b c : P) : turn a b c = X (sub b a) (sub c a) := rfl
theorem X_id1 (u v w : P) : v.1 * X u w = u.1 * X v w + w.1 * X u v := by
  unfold X
  grind
/-- three vectors of the right half of the plane -/
theorem X_trans {u v w : P} (hu : Pos u) (hv : Pos v) (hw : Pos w) (h1 : 0 ≤ X u v) (h2 : 0 ≤ X v w) : 0 ≤ X u w := by
  rcases hv with hv | ⟨hv, hv2⟩
  · have u0 : 0 ≤ u.1 := by unfold Pos at hu; omega
    have w0 : 0 ≤ w.1 := by unfold Pos at hw; omega
    have e := X_id1 u v w
    have a1 := Int.mul_nonneg u0 h2
    have a2 := Int.mul_nonneg w0 h1
    refine Int.not_lt.mp fun z => ?_
    have z2 : v.1 * X u w < 0 := Int.mul_neg_of_pos_of_neg hv z
    omega
  · have h3 : 0 ≤ - (v.2 * w.1) := by
      unfold X at h2
      rw [hv, Int.zero_mul] at h2
      omega
    have w1 : w.1 = 0 := by
      have w0 : 0 ≤ w.1 := by unfold Pos at hw; omega
      refine Int.le_antisymm (Int.not_lt.mp fun z => ?_) w0
      have := Int.mul_pos hv2 z
      omega
    have w2 : 0 < w.2 := by unfold Pos at hw; omega
    have u0 : 0 ≤ u.1 := by unfold Pos at hu; omega
    unfold X
    rw [w1, Int.mul_zero, Int.sub_zero]
    exact Int.mul_nonneg u0 (Int.le_of_lt w2)
theorem X_trans_lt {u v w : P} (hu : Pos u) (hv : Pos v) (hw : Pos w) (h1 : 0 < X u v) (h2 : 0 < X v w) : 0 < X u w := by
  rcases hv with hv | ⟨hv, hv2⟩
  · have w0 : 0 ≤ w.1 := by unfold Pos at hw; omega
    have u0 : 0 < u.1 := by
      rcases hu with hu | ⟨hu, hu2⟩
      · exact hu
      · exfalso
        unfold X at h1
        rw [hu, Int.zero_mul] at h1
        have := Int.mul_pos hu2 hv
        omega
    have e := X_id1 u v w
    have a1 := Int.mul_pos u0 h2
    have a2 := Int.mul_nonneg w0 (Int.le_of_lt h1)
    refine Int.not_le.mp fun z => ?_
    have z2 : v.1 * X u w ≤ v.1 * 0 := Int.mul_le_mul_of_nonneg_left z (Int.le_of_lt hv)
    omega
  · exfalso
    unfold X at h2
    rw [hv, Int.zero_mul] at h2
    have w0 : 0 ≤ w.1 := by unfold Pos at hw; omega
    have := Int.mul_nonneg (Int.le_of_lt hv2) w0
    omega
/-! algebra of turns -/
theorem turn_cyc (a b c : P) : turn a b c = turn b c a := by unfold turn; grind
theorem turn_swap (a b c : P) : turn a b c = - turn b a c := by unfold turn; grind
theorem turn_aab (a b : P) : turn a a b = 0 := by simp [turn]
theorem turn_aba (a b : P) : turn a b a = 0 := by simp [turn]
theorem turn_abb (a b : P) : turn a b b = 0 := by unfold turn; rw [Int.mul_comm]; omega
/-- turn a b c by the directions a to b, b to c -/
theorem turn_dir (a b c : P) : turn a b c = X (sub b a) (sub c b) := by
  unfold turn X sub
  grind
end Hull
set_option linter.all false
namespace Hull
/-! the chain, its top first -/
def pop (r : P) : List P → List P
  | b :: a :: rest => if turn a b r ≤ 0 then pop r (a :: rest) else b :: a :: rest
  | st => st
def push (st : List P) (r : P) : List P := r :: pop r st
def half (ps : List P) : List P := ps.foldl push []
/-- over each edge, from a to b in b :: a :: .. -/
def Edges (Q : P → P → Prop) : List P → Prop
  | b :: a :: rest => Q a b ∧ Edges Q (a :: rest)
  | _ => True
theorem Edges.imp {Q R : P → P → Prop} (h : ∀ a b, Q a b → R a b) : ∀ {l : List P}, Edges Q l → Edges R l
  | [], _ => trivial
  | [_], _ => trivial
  | b :: a :: rest, e => ⟨h _ _ e.1, Edges.imp h e.2⟩
theorem Edges.both {Q R : P → P → Prop} : ∀ {l : List P}, Edges Q l → Edges R l → Edges (fun a b => Q a b ∧ R a b) l
  | [], _, _ => trivial
  | [_], _, _ => trivial
  | b :: a :: rest, e, f => ⟨⟨e.1, f.1⟩, Edges.both e.2 f.2⟩
/-- each edge goes up in the order, and each one turns left of all before it -/
def Conv : List P → Prop
  | b :: a :: rest => Lt a b ∧ Edges (fun p q => 0 < X (sub q p) (sub b a)) (a :: rest) ∧ Conv (a :: rest)
  | _ => True
theorem Conv.up : ∀ {l : List P}, Conv l → Edges Lt l
  | [], _ => trivial
  | [_], _ => trivial
  | b :: a :: rest, c => ⟨c.1, Conv.up c.2.2⟩
/-- all points of S lie on the left of each edge -/
abbrev Left (S : List P) (l : List P) : Prop := Edges (fun p q => ∀ s ∈ S, 0 ≤ turn p q s) l
theorem turn_add (p q e r : P) : turn p q r = turn p q e + X (sub q p) (sub r e) := by unfold turn X sub; grind
structure Inv (S : List P) (m b : P) (st : List P) : Prop where
  conv : Conv st
  left : Left S st
  mem : ∀ e ∈ st, e ∈ S
  bot : st.getLast? = some m
  top : st.head? = some b
theorem pop_inv {S : List P} {m r : P} : ∀ {st : List P} {b : P}, Inv S m b st → (∀ e ∈ st, Lt e r) → (∀ s ∈ S, Lt b s → 0 ≤ turn b r s) →
    ∃ e, Inv S m e (pop r st) ∧ (∀ s ∈ S, Lt e s → 0 ≤ turn e r s) ∧ (∀ a rest, pop r st = e :: a :: rest → 0 < turn a e r) ∧ ∀ x ∈ pop r st, x ∈ st
  | [], b, I, _, _ => by
    have := I.top
    cases this
  | [x], b, I, hr, ht => by
    have e : x = b := Option.some.inj I.top
    subst e
    exact ⟨x, I, ht, fun a rest h => by simp [pop] at h, fun y hy => hy⟩
  | b' :: a :: rest, b, I, hr, ht => by
    have e : b' = b := Option.some.inj I.top
    subst e
    by_cases h : turn a b' r ≤ 0
    · have ep : pop r (b' :: a :: rest) = pop r (a :: rest) := by simp [pop, h]
      have J : Inv S m a (a :: rest) := ⟨I.conv.2.2, I.left.2, fun e he => I.mem e (List.mem_cons_of_mem _ he), by have := I.bot; simpa using this, rfl⟩
      have ta : ∀ s ∈ S, Lt a s → 0 ≤ turn a r s := fun s hs hl => by
        have h1 : Pos (sub r a) := pos_sub.mpr (hr a (by simp))
        have h2 : Pos (sub b' a) := pos_sub.mpr I.conv.1
        have h3 : Pos (sub s a) := pos_sub.mpr hl
        have k1 : 0 ≤ X (sub r a) (sub b' a) := by
          have : turn a b' r = X (sub b' a) (sub r a) := rfl
          have e2 : X (sub r a) (sub b' a) = - X (sub b' a) (sub r a) := by unfold X; grind
          omega
        have k2 : 0 ≤ X (sub b' a) (sub s a) := I.left.1 s hs
        exact X_trans h1 h2 h3 k1 k2
      obtain ⟨e, K1, K2, K3, K4⟩ := pop_inv J (fun e he => hr e (List.mem_cons_of_mem _ he)) ta
      rw [ep]
      exact ⟨e, K1, K2, K3, fun x hx => List.mem_cons_of_mem _ (K4 x hx)⟩
    · have ep : pop r (b' :: a :: rest) = b' :: a :: rest := by simp [pop, h]
      rw [ep]
      refine ⟨b', I, ht, fun a' rest' q => ?_, fun x hx => hx⟩
      cases q
      omega
theorem push_inv {S : List P} {m b r : P} {st : List P} (I : Inv S m b st) (hr : ∀ s ∈ S, Lt s r) (hb : ∀ s ∈ S, ¬ Lt b s) (hm : ∀ s ∈ S, ¬ Lt s m) : Inv (r :: S) m r (push st r) := by
  obtain ⟨e, J, t, ex, sub'⟩ := pop_inv I (fun e he => hr e (I.mem e he)) (fun s hs hl => absurd hl (hb s hs))
  have heS : e ∈ S := by
    have h := J.top
    cases q : pop r st with
    | nil => rw [q] at h; cases h
    | cons x l =>
      rw [q] at h
      have : x = e := Option.some.inj h
      subst this
      exact J.mem x (by rw [q]; simp)
  have her := hr e heS
  show Inv (r :: S) m r (r :: pop r st)
  cases q : pop r st with
  | nil =>
    have h := J.top
    rw [q] at h
    cases h
  | cons x l =>
    rw [q] at J ex
    have xe : x = e := Option.some.inj J.top
    subst xe
    -- each edge so far against the new one
    have dirs : Edges (fun p q => 0 < X (sub q p) (sub r x)) (x :: l) := by
      cases l with
      | nil => trivial
      | cons a rest =>
        have g : 0 < X (sub x a) (sub r x) := by
          rw [← turn_dir]
          exact ex a rest rfl
        refine ⟨g, ?_⟩
        have up := J.conv.2.2.up
        exact Edges.imp (fun p q h => X_trans_lt (pos_sub.mpr h.2) (pos_sub.mpr J.conv.1) (pos_sub.mpr her) h.1 g) (Edges.both J.conv.2.1 up)
    refine ⟨⟨her, dirs, J.conv⟩, ⟨fun s hs => ?_, ?_⟩, fun y hy => ?_, ?_, rfl⟩
    · -- the new edge
      rcases List.mem_cons.mp hs with rfl | hs
      · rw [turn_abb]
        exact Int.le_refl _
      · rcases Lt.total x s with h | h | h
        · exact t s hs h
        · rw [← h, turn_aba]
          exact Int.le_refl _
        · cases l with
          | nil =>
            have : x = m := Option.some.inj J.bot
            subst this
            exact absurd h (hm s hs)
          | cons a rest =>
            have g : 0 < X (sub x a) (sub r x) := by
              rw [← turn_dir]
              exact ex a rest rfl
            have g2 : 0 ≤ turn a x s := J.left.1 s hs
            have k1 : 0 ≤ X (sub x s) (sub x a) := by
              have : X (sub x s) (sub x a) = turn a x s := by unfold X sub turn; grind
              omega
            have k := X_trans (pos_sub.mpr h) (pos_sub.mpr J.conv.1) (pos_sub.mpr her) k1 (Int.le_of_lt g)
            have : turn x r s = X (sub x s) (sub r x) := by unfold X sub turn; grind
            omega
    · -- the old edges
      refine Edges.imp (fun p q' h => ?_) (Edges.both J.left dirs)
      intro s hs
      rcases List.mem_cons.mp hs with rfl | hs
      · rw [turn_add p q' x s]
        have := h.1 x heS
        omega
      · exact h.1 s hs
    · rcases List.mem_cons.mp hy with rfl | hy
      · exact List.mem_cons_self
      · exact List.mem_cons_of_mem _ (J.mem y hy)
    · have := J.bot
      simp only [List.getLast?_cons_cons]
      exact this
end Hull
set_option linter.all false
namespace Hull
/-! the whole lower chain -/
structure Chain (S : List P) (m M : P) (st : List P) : Prop extends Inv S m M st where
  least : ∀ s ∈ S, ¬ Lt s m
  most : ∀ s ∈ S, ¬ Lt M s
theorem fold_chain {m : P} : ∀ (rest : List P) {S st : List P} {b : P}, Chain S m b st → m ∈ S → (∀ s ∈ S, ∀ x ∈ rest, Lt s x) → rest.Pairwise Lt →
    ∃ S' b', Chain S' m b' (rest.foldl push st) ∧ (∀ x, x ∈ S' ↔ x ∈ S ∨ x ∈ rest)
  | [], S, st, b, C, _, _, _ => ⟨S, b, C, fun x => by simp⟩
  | r :: rest, S, st, b, C, hm, h, hp => by
    have hr : ∀ s ∈ S, Lt s r := fun s hs => h s hs r (by simp)
    have J := push_inv C.toInv hr C.most C.least
    have D : Chain (r :: S) m r (push st r) := ⟨J, fun s hs => by
      rcases List.mem_cons.mp hs with rfl | hs
      · exact fun z => (z.trans (hr m hm)).irrefl
      · exact C.least s hs, fun s hs => by
      rcases List.mem_cons.mp hs with rfl | hs
      · exact fun z => z.irrefl
      · exact fun z => (z.trans (hr s hs)).irrefl⟩
    obtain ⟨S', b', K, K2⟩ := fold_chain rest D (List.mem_cons_of_mem _ hm) (fun s hs x hx => by
      rcases List.mem_cons.mp hs with rfl | hs
      · exact (List.pairwise_cons.mp hp).1 x hx
      · exact h s hs x (List.mem_cons_of_mem _ hx)) (List.pairwise_cons.mp hp).2
    refine ⟨S', b', K, fun x => ?_⟩
    rw [K2]
    simp only [List.mem_cons]
    constructor
    · rintro ((h | h) | h)
      · exact .inr (.inl h)
      · exact .inl h
      · exact .inr (.inr h)
    · rintro (h | h | h)
      · exact .inl (.inr h)
      · exact .inl (.inl h)
      · exact .inr h
theorem half_chain {m : P} {rest : List P} (h : (m :: rest).Pairwise Lt) : ∃ S M, Chain S m M (half (m :: rest)) ∧ ∀ x, x ∈ S ↔ x ∈ m :: rest := by
  have C0 : Chain [m] m m [m] := ⟨⟨trivial, trivial, fun e he => he, rfl, rfl⟩, fun s hs => by rw [List.mem_singleton.mp hs]; exact fun z => z.irrefl, fun s hs => by rw [List.mem_singleton.mp hs]; exact fun z => z.irrefl⟩
  obtain ⟨S, M, C, e⟩ := fold_chain rest C0 (by simp) (fun s hs x hx => by rw [List.mem_singleton.mp hs]; exact (List.pairwise_cons.mp h).1 x hx) (List.pairwise_cons.mp h).2
  refine ⟨S, M, C, fun x => ?_⟩
  rw [e]
  simp
/-! turned about -/
def neg (p : P) : P := (-p.1, -p.2)
theorem neg_neg (p : P) : neg (neg p) = p := by unfold neg; simp
theorem neg_inj {p q : P} (h : neg p = neg q) : p = q := by rw [← neg_neg p, h, neg_neg]
theorem lt_neg {a b : P} : Lt (neg b) (neg a) ↔ Lt a b := by unfold Lt neg; dsimp only; omega
theorem turn_neg (a b c : P) : turn (neg a) (neg b) (neg c) = turn a b c := by unfold turn neg; grind
theorem pop_neg (r : P) : ∀ st : List P, pop (neg r) (st.map neg) = (pop r st).map neg
  | [] => rfl
  | [_] => rfl
  | b :: a :: rest => by
    have ih := pop_neg r (a :: rest)
    simp only [List.map_cons] at ih ⊢
    unfold pop
    rw [turn_neg]
    split
    · exact ih
    · rfl
theorem half_neg (ps : List P) : half (ps.map neg) = (half ps).map neg := by
  have h : ∀ (l : List P) (st : List P), (l.map neg).foldl push (st.map neg) = (l.foldl push st).map neg := by
    intro l
    induction l with
    | nil => intro st; rfl
    | cons r l ih =>
      intro st
      show (l.map neg).foldl push (push (st.map neg) (neg r)) = (l.foldl push (push st r)).map neg
      have e : push (st.map neg) (neg r) = (push st r).map neg := by
        unfold push
        rw [pop_neg]
        rfl
      rw [e, ih]
  exact h ps []
/-! edges by places -/
theorem Edges.at {Q : P → P → Prop} : ∀ {pre : List P} {b a : P} {post : List P}, Edges Q (pre ++ b :: a :: post) → Q a b
  | [], _, _, _, h => h.1
  | [x], _, _, _, h => Edges.at (pre := []) h.2
  | x :: y :: pre, _, _, _, h => Edges.at (pre := y :: pre) h.2
theorem Conv.at : ∀ {pre : List P} {c b a : P} {post : List P}, Conv (pre ++ c :: b :: a :: post) → 0 < X (sub b a) (sub c b)
  | [], _, _, _, _, h => h.2.1.1
  | [x], _, _, _, _, h => Conv.at (pre := []) h.2.2
  | x :: y :: pre, _, _, _, _, h => Conv.at (pre := y :: pre) h.2.2
theorem Conv.down : ∀ {l : List P}, Conv l → l.Pairwise fun x y => Lt y x
  | [], _ => .nil
  | [_], _ => List.pairwise_singleton _ _
  | b :: a :: rest, c => by
    have ih := Conv.down c.2.2
    refine List.pairwise_cons.mpr ⟨fun y hy => ?_, ih⟩
    rcases List.mem_cons.mp hy with rfl | hy
    · exact c.1
    · exact ((List.pairwise_cons.mp ih).1 y hy).trans c.1
theorem last_cases (l : List P) : l = [] ∨ ∃ l' x, l = l' ++ [x] := by
  cases h : l.reverse with
  | nil => exact .inl (List.reverse_eq_nil_iff.mp h)
  | cons x r => exact .inr ⟨r.reverse, x, by rw [← List.reverse_reverse l, h]; simp⟩
/-! no third corner lies on the line of an edge -/
theorem strict {S T : List P} {m M : P} {L V : List P} (C : Chain S m M L) (D : Chain T (neg M) (neg m) V) (hT : ∀ x, x ∈ T ↔ neg x ∈ S) {pre post : List P} {p q c : P} (hL : L = pre ++ q :: p :: post) (hc : c ∈ L ∨ neg c ∈ V) (cp : c ≠ p) (cq : c ≠ q) : 0 < turn p q c := by
  have inS : ∀ x ∈ L, x ∈ S := C.mem
  have inT : ∀ x, neg x ∈ V → x ∈ S := fun x hx => by
    have := (hT (neg x)).mp (D.mem _ hx)
    rwa [neg_neg] at this
  have cS : c ∈ S := hc.elim (inS c) (inT c)
  have pS : p ∈ S := inS p (by rw [hL]; simp)
  have qS : q ∈ S := inS q (by rw [hL]; simp)
  have ge : 0 ≤ turn p q c := (Edges.at (by rw [← hL]; exact C.left) : ∀ s ∈ S, 0 ≤ turn p q s) c cS
  have pq : Lt p q := (Edges.at (by rw [← hL]; exact C.conv.up) : Lt p q)
  have srt := C.conv.down
  rcases Int.lt_or_eq_of_le ge with z | z
  · exact z
  exfalso
  have z0 : X (sub q p) (sub c p) = 0 := z.symm
  rcases Lt.total q c with h | h | h
  · -- beyond q
    have qM : q ≠ M := fun e => C.most c cS (e ▸ h)
    rcases last_cases pre with rfl | ⟨pre, q', rfl⟩
    · have := C.top
      rw [hL] at this
      exact qM (Option.some.inj this)
    · have hL' : L = pre ++ q' :: q :: p :: post := by rw [hL]; simp
      have k1 : 0 < X (sub q p) (sub q' q) := Conv.at (by rw [← hL']; exact C.conv)
      have k2 : 0 ≤ turn q q' c := (Edges.at (by rw [← hL']; exact C.left) : ∀ s ∈ S, 0 ≤ turn q q' s) c cS
      have qq' : Lt q q' := (Edges.at (by rw [← hL']; exact C.conv.up) : Lt q q')
      have k3 : 0 ≤ X (sub c q) (sub q p) := by
        have : X (sub c q) (sub q p) = - X (sub q p) (sub c p) := by unfold X sub; grind
        omega
      have k4 := X_trans (pos_sub.mpr qq') (pos_sub.mpr h) (pos_sub.mpr pq) k2 k3
      have : X (sub q' q) (sub q p) = - X (sub q p) (sub q' q) := by unfold X; grind
      omega
  · exact cq h.symm
  · rcases Lt.total c p with g | g | g
    · -- ahead of p
      have pm : p ≠ m := fun e => C.least c cS (e ▸ g)
      cases post with
      | nil =>
        have := C.bot
        rw [hL] at this
        simp at this
        exact pm this
      | cons p' post =>
        have hL' : L = (pre ++ [q]) ++ p :: p' :: post := by rw [hL]; simp
        have k1 : 0 < X (sub p p') (sub q p) := Conv.at (by rw [← hL]; exact C.conv)
        have k2 : 0 ≤ turn p' p c := (Edges.at (by rw [← hL']; exact C.left) : ∀ s ∈ S, 0 ≤ turn p' p s) c cS
        have pp' : Lt p' p := (Edges.at (by rw [← hL']; exact C.conv.up) : Lt p' p)
        have k3 : 0 ≤ X (sub p c) (sub p p') := by
          have : X (sub p c) (sub p p') = turn p' p c := by unfold X sub turn; grind
          omega
        have k4 : 0 ≤ X (sub q p) (sub p c) := by
          have : X (sub q p) (sub p c) = - X (sub q p) (sub c p) := by unfold X sub; grind
          omega
        have k5 := X_trans (pos_sub.mpr pq) (pos_sub.mpr g) (pos_sub.mpr pp') k4 k3
        have : X (sub q p) (sub p p') = - X (sub p p') (sub q p) := by unfold X; grind
        omega
    · exact cp g
    · -- between: not of the lower chain, so within the upper one
      have nL : c ∉ L := fun hcL => by
        rw [hL] at hcL srt
        rw [List.pairwise_append] at srt
        obtain ⟨_, s2, s3⟩ := srt
        rcases List.mem_append.mp hcL with x | x
        · exact (s3 c x q (by simp)).asymm h
        · rcases List.mem_cons.mp x with x | x
          · exact cq x
          · rcases List.mem_cons.mp x with x | x
            · exact cp x
            · exact ((List.pairwise_cons.mp (List.pairwise_cons.mp s2).2).1 c x).asymm g
      have cV : neg c ∈ V := hc.resolve_left nL
      obtain ⟨pre2, post2, hV⟩ := List.append_of_mem cV
      have cm : c ≠ m := fun e => C.least p pS (e ▸ g)
      have cM : c ≠ M := fun e => C.most q qS (e ▸ h)
      rcases last_cases pre2 with rfl | ⟨pre2, v, rfl⟩
      · have := D.top
        rw [hV] at this
        exact cm (neg_inj (Option.some.inj this))
      · cases post2 with
        | nil =>
          have := D.bot
          rw [hV] at this
          simp at this
          exact cM (neg_inj this)
        | cons u post2 =>
          have hV1 : V = pre2 ++ v :: neg c :: u :: post2 := by rw [hV]; simp
          have hV2 : V = (pre2 ++ [v]) ++ neg c :: u :: post2 := by rw [hV]
          have k0 : 0 < X (sub (neg c) u) (sub v (neg c)) := Conv.at (by rw [← hV1]; exact D.conv)
          have e1 : ∀ s ∈ S, 0 ≤ turn (neg c) v (neg s) := fun s hs => (Edges.at (by rw [← hV1]; exact D.left) : ∀ s ∈ T, 0 ≤ turn (neg c) v s) (neg s) ((hT _).mpr (by rw [neg_neg]; exact hs))
          have e2 : ∀ s ∈ S, 0 ≤ turn u (neg c) (neg s) := fun s hs => (Edges.at (by rw [← hV2]; exact D.left) : ∀ s ∈ T, 0 ≤ turn u (neg c) s) (neg s) ((hT _).mpr (by rw [neg_neg]; exact hs))
          have o1 : Lt (neg c) v := (Edges.at (by rw [← hV1]; exact D.conv.up) : Lt (neg c) v)
          have o2 : Lt u (neg c) := (Edges.at (by rw [← hV2]; exact D.conv.up) : Lt u (neg c))
          have p1 : Pos (sub (neg p) (neg c)) := pos_sub.mpr (lt_neg.mpr g)
          have p2 : Pos (sub (neg c) (neg q)) := pos_sub.mpr (lt_neg.mpr h)
          have x12 : X (sub (neg p) (neg c)) (sub (neg c) (neg q)) = - X (sub q p) (sub c p) := by unfold X sub neg; grind
          have a2 : 0 ≤ X (sub v (neg c)) (sub (neg p) (neg c)) := e1 p pS
          have a4 := X_trans (pos_sub.mpr o1) p1 p2 a2 (by omega)
          have b1 : 0 ≤ X (sub (neg c) (neg q)) (sub (neg c) u) := by
            have := e2 q qS
            have e : X (sub (neg c) (neg q)) (sub (neg c) u) = turn u (neg c) (neg q) := by unfold X sub turn; grind
            omega
          have a5 := X_trans (pos_sub.mpr o1) p2 (pos_sub.mpr o2) a4 b1
          have : X (sub v (neg c)) (sub (neg c) u) = - X (sub (neg c) u) (sub v (neg c)) := by unfold X; grind
          omega
end Hull
set_option linter.all false
namespace Hull
theorem no_both {S T : List P} {m M : P} {L V : List P} (C : Chain S m M L) (D : Chain T (neg M) (neg m) V) (hT : ∀ x, x ∈ T ↔ neg x ∈ S) {c : P} (h1 : c ∈ L) (h2 : neg c ∈ V) (cm : c ≠ m) (cM : c ≠ M) : False := by
  obtain ⟨pre, post, hL⟩ := List.append_of_mem h1
  obtain ⟨pre2, post2, hV⟩ := List.append_of_mem h2
  rcases last_cases pre with rfl | ⟨pre, q, rfl⟩
  · have := C.top
    rw [hL] at this
    exact cM (Option.some.inj this)
  cases post with
  | nil =>
    have := C.bot
    rw [hL] at this
    simp at this
    exact cm this
  | cons p post =>
    cases post2 with
    | nil =>
      have := D.bot
      rw [hV] at this
      simp at this
      exact cM (neg_inj this)
    | cons u post2 =>
      have hL1 : L = pre ++ q :: c :: p :: post := by rw [hL]; simp
      have hL2 : L = (pre ++ [q]) ++ c :: p :: post := hL
      have k0 : 0 < X (sub c p) (sub q c) := Conv.at (by rw [← hL1]; exact C.conv)
      have o1 : Lt c q := (Edges.at (by rw [← hL1]; exact C.conv.up) : Lt c q)
      have o2 : Lt p c := (Edges.at (by rw [← hL2]; exact C.conv.up) : Lt p c)
      have o3 : Lt u (neg c) := (Edges.at (by rw [← hV]; exact D.conv.up) : Lt u (neg c))
      have uT : u ∈ T := D.mem u (by rw [hV]; simp)
      have pS : p ∈ S := C.mem p (by rw [hL]; simp)
      have a1 : 0 ≤ X (sub q c) (sub (neg c) u) := by
        have h := (Edges.at (by rw [← hL1]; exact C.left) : ∀ s ∈ S, 0 ≤ turn c q s) (neg u) ((hT u).mp uT)
        have e : X (sub q c) (sub (neg c) u) = turn c q (neg u) := by unfold X sub turn neg; grind
        omega
      have a2 : 0 ≤ X (sub (neg c) u) (sub c p) := by
        have h := (Edges.at (by rw [← hV]; exact D.left) : ∀ s ∈ T, 0 ≤ turn u (neg c) s) (neg p) ((hT _).mpr (by rw [neg_neg]; exact pS))
        have e : X (sub (neg c) u) (sub c p) = turn u (neg c) (neg p) := by unfold X sub turn neg; grind
        omega
      have k := X_trans (pos_sub.mpr o1) (pos_sub.mpr o3) (pos_sub.mpr o2) a1 a2
      have : X (sub q c) (sub c p) = - X (sub c p) (sub q c) := by unfold X; grind
      omega
/-! by places -/
theorem split_at {l : List P} {j : Nat} (h : j + 1 < l.length) : ∃ pre post, l = pre ++ l[j] :: l[j + 1] :: post := by
  refine ⟨l.take j, l.drop (j + 2), ?_⟩
  have e1 : l = l.take j ++ l.drop j := (List.take_append_drop j l).symm
  have e2 : l.drop j = l[j] :: l.drop (j + 1) := List.drop_eq_getElem_cons (by omega)
  have e3 : l.drop (j + 1) = l[j + 1] :: l.drop (j + 2) := List.drop_eq_getElem_cons h
  rw [← e3, ← e2]
  exact e1
/-- what stands next to the i-th of the tail turned round, in top :: tail -/
theorem tail_edge {t : P} {r : List P} {i : Nat} (h : i < r.length) : ∃ pre post, t :: r = pre ++ (if h2 : i + 1 < r.length then r.reverse[i + 1]'(by simpa using h2) else t) :: r.reverse[i]'(by simpa using h) :: post := by
  have hj : (r.length - 1 - i) + 1 < (t :: r).length := by simp; omega
  obtain ⟨pre, post, e⟩ := split_at hj
  refine ⟨pre, post, ?_⟩
  have e1 : (t :: r)[r.length - 1 - i + 1] = r.reverse[i]'(by simpa using h) := by
    rw [List.getElem_cons_succ, List.getElem_reverse]
  have e2 : (t :: r)[r.length - 1 - i]'(by omega) = (if h2 : i + 1 < r.length then r.reverse[i + 1]'(by simpa using h2) else t) := by
    split
    · rename_i h2
      have e3 : r.length - 1 - i = (r.length - 1 - (i + 1)) + 1 := by omega
      simp only [e3, List.getElem_cons_succ, List.getElem_reverse]
    · have e3 : r.length - 1 - i = 0 := by omega
      simp only [e3, List.getElem_cons_zero]
  rw [← e1, ← e2]
  exact e
theorem nodup_inj {l : List P} (h : l.Nodup) {i j : Nat} {hi : i < l.length} {hj : j < l.length} (e : l[i] = l[j]) : i = j := by
  have p := List.pairwise_iff_getElem.mp h
  rcases Nat.lt_trichotomy i j with z | z | z
  · exact absurd e (p i j hi hj z)
  · exact z
  · exact absurd e.symm (p j i hj hi z)
/-! the polygon -/
def hull (s : List P) : List P := (half s).reverse.dropLast ++ (half s.reverse).reverse.dropLast
theorem rev_drop (t : P) (r : List P) : (t :: r).reverse.dropLast = r.reverse := by simp
/-- the corners, with what is known of them -/
structure Poly (s H : List P) : Prop where
  two : 2 ≤ H.length
  nodup : H.Nodup
  mem : ∀ c ∈ H, c ∈ s
  first : ∃ m, H[0]? = some m ∧ s.head? = some m ∧ ∀ c ∈ H, c ≠ m → Lt m c
  strict : ∀ (i j : Nat) (hi : i < H.length) (hj : j < H.length), j ≠ i → j ≠ (i + 1) % H.length → 0 < turn H[i] (H[(i + 1) % H.length]'(Nat.mod_lt _ (by omega))) H[j]
  weak : ∀ (i : Nat) (hi : i < H.length), ∀ x ∈ s, 0 ≤ turn H[i] (H[(i + 1) % H.length]'(Nat.mod_lt _ (by omega))) x
theorem poly {s : List P} (hs : s.Pairwise Lt) (h2 : 2 ≤ s.length) : Poly s (hull s) := by
  obtain ⟨m, rest, rfl⟩ : ∃ m rest, s = m :: rest := by
    cases s with
    | nil => simp at h2
    | cons m rest => exact ⟨m, rest, rfl⟩
  obtain ⟨S, M, C, hS⟩ := half_chain hs
  -- the upper chain, turned about
  obtain ⟨k, rest2, hk⟩ : ∃ k rest2, (m :: rest).reverse.map neg = k :: rest2 := by
    cases h : (m :: rest).reverse.map neg with
    | nil => simp at h
    | cons k r => exact ⟨k, r, rfl⟩
  have hs2 : (k :: rest2).Pairwise Lt := by
    rw [← hk, List.pairwise_map, List.pairwise_reverse]
    exact hs.imp fun h => lt_neg.mpr h
  obtain ⟨T, M2, D, hT0⟩ := half_chain hs2
  have hT : ∀ x, x ∈ T ↔ neg x ∈ S := fun x => by
    rw [hT0, ← hk, hS]
    simp only [List.mem_map, List.mem_reverse]
    constructor
    · rintro ⟨y, hy, rfl⟩
      rw [neg_neg]
      exact hy
    · intro h
      exact ⟨neg x, h, neg_neg x⟩
  have mS : m ∈ S := (hS m).mpr (by simp)
  have MS : M ∈ S := by
    have h := C.top
    cases q : half (m :: rest) with
    | nil => rw [q] at h; cases h
    | cons x l => rw [q] at h; cases h; exact C.mem M (by rw [q]; simp)
  have M2T : M2 ∈ T := by
    have h := D.top
    cases q : half (k :: rest2) with
    | nil => rw [q] at h; cases h
    | cons x l => rw [q] at h; cases h; exact D.mem M2 (by rw [q]; simp)
  have kT : k ∈ T := (hT0 k).mpr (by simp)
  have ek : k = neg M := by
    rcases Lt.total k (neg M) with h | h | h
    · exfalso
      have := C.most (neg k) ((hT k).mp kT)
      exact this (by have := lt_neg.mpr h; rwa [neg_neg] at this)
    · exact h
    · exact absurd h (D.least (neg M) ((hT _).mpr (by rw [neg_neg]; exact MS)))
  have eM2 : M2 = neg m := by
    rcases Lt.total M2 (neg m) with h | h | h
    · exact absurd h (D.most (neg m) ((hT _).mpr (by rw [neg_neg]; exact mS)))
    · exact h
    · exfalso
      have := C.least (neg M2) ((hT M2).mp M2T)
      exact this (by have := lt_neg.mpr h; rwa [neg_neg] at this)
  subst ek eM2
  have eV : half (neg M :: rest2) = (half (m :: rest).reverse).map neg := by rw [← hk, half_neg]
  rw [eV] at D
  generalize hLL : half (m :: rest) = L at C
  generalize hWW : half (m :: rest).reverse = W at D
  have hH : hull (m :: rest) = L.reverse.dropLast ++ W.reverse.dropLast := by unfold hull; rw [hLL, hWW]
  rw [hH]
  obtain ⟨r0, rest, rfl⟩ : ∃ r0 r, rest = r0 :: r := by
    cases rest with
    | nil => simp at h2
    | cons r0 r => exact ⟨r0, r, rfl⟩
  have mM : m ≠ M := fun e => by
    have h1 := C.most r0 ((hS r0).mpr (by simp))
    exact h1 (e ▸ (List.pairwise_cons.mp hs).1 r0 (by simp))
  obtain ⟨Lr, rfl⟩ : ∃ Lr, L = M :: Lr := by
    cases L with
    | nil => have := C.top; cases this
    | cons x l => have := C.top; cases this; exact ⟨l, rfl⟩
  obtain ⟨Wr, rfl⟩ : ∃ Wr, W = m :: Wr := by
    cases W with
    | nil => have := D.top; cases this
    | cons x l => have := D.top; exact ⟨l, by rw [neg_inj (Option.some.inj this)]⟩
  have hk0 : 0 < Lr.length := by
    cases Lr with
    | nil => have := C.bot; simp at this; exact absurd this.symm mM
    | cons _ _ => simp
  have hl0 : 0 < Wr.length := by
    cases Wr with
    | nil => have := D.bot; simp at this; exact absurd (neg_inj this) mM
    | cons _ _ => simp
  rw [rev_drop, rev_drop]
  clear hH hLL hWW hk h2
  have hn : (Lr.reverse ++ Wr.reverse).length = Lr.length + Wr.length := by simp
  have z1 : (Lr.reverse ++ Wr.reverse)[0]'(by omega) = m := by
    rw [List.getElem_append_left (by simpa using hk0), List.getElem_reverse]
    have h := C.bot
    rw [List.getLast?_eq_getElem?] at h
    have e : (M :: Lr).length - 1 = (Lr.length - 1 - 0) + 1 := by simp; omega
    rw [e, List.getElem?_cons_succ, List.getElem?_eq_getElem (by omega)] at h
    exact Option.some.inj h
  have z2 : (Lr.reverse ++ Wr.reverse)[Lr.length]'(by omega) = M := by
    rw [List.getElem_append_right (by simp), List.getElem_reverse]
    have h := D.bot
    rw [List.getLast?_eq_getElem?] at h
    have e : ((m :: Wr).map neg).length - 1 = (Wr.length - 1 - (Lr.length - Lr.reverse.length)) + 1 := by simp; omega
    rw [e, List.map_cons, List.getElem?_cons_succ, List.getElem?_map, List.getElem?_eq_getElem (by simp; omega)] at h
    exact neg_inj (Option.some.inj h)
  have inL : ∀ c, c ∈ Lr → Lt c M := fun c hc => (List.pairwise_cons.mp C.conv.down).1 c hc
  have inW : ∀ c, c ∈ Wr → Lt m c := fun c hc => by
    have := (List.pairwise_cons.mp (show ((neg m) :: Wr.map neg).Pairwise (fun x y => Lt y x) from D.conv.down)).1 (neg c) (List.mem_map_of_mem hc)
    exact lt_neg.mp this
  have side : ∀ c ∈ Lr.reverse ++ Wr.reverse, c ∈ (M :: Lr) ∨ neg c ∈ (m :: Wr).map neg := fun c hc => by
    rcases List.mem_append.mp hc with h | h
    · exact .inl (List.mem_cons_of_mem _ (List.mem_reverse.mp h))
    · exact .inr (List.mem_map_of_mem (List.mem_cons_of_mem _ (List.mem_reverse.mp h)))
  have inS : ∀ c ∈ Lr.reverse ++ Wr.reverse, c ∈ S := fun c hc => by
    rcases side c hc with h | h
    · exact C.mem c h
    · have := (hT _).mp (D.mem _ h)
      rwa [neg_neg] at this
  have nodup : (Lr.reverse ++ Wr.reverse).Nodup := by
    rw [List.nodup_append]
    refine ⟨?_, ?_, fun c h1 c' h2 e => ?_⟩
    · exact (List.pairwise_reverse).mpr ((List.pairwise_cons.mp C.conv.down).2.imp fun h => h.ne)
    · have h := (List.pairwise_cons.mp (show ((neg m) :: Wr.map neg).Pairwise (fun x y => Lt y x) from D.conv.down)).2
      rw [List.pairwise_map] at h
      exact (List.pairwise_reverse).mpr (h.imp fun h => (lt_neg.mp h).ne.symm)
    · subst e
      exact no_both C D hT (List.mem_cons_of_mem _ (List.mem_reverse.mp h1)) (List.mem_map_of_mem (List.mem_cons_of_mem _ (List.mem_reverse.mp h2))) (Lt.ne (inW c (List.mem_reverse.mp h2))).symm (Lt.ne (inL c (List.mem_reverse.mp h1)))
  -- each side is an edge of one of both chains
  have edge : ∀ (i : Nat) (hi : i < (Lr.reverse ++ Wr.reverse).length),
      (∃ pre post, M :: Lr = pre ++ ((Lr.reverse ++ Wr.reverse)[(i + 1) % (Lr.reverse ++ Wr.reverse).length]'(Nat.mod_lt _ (by omega))) :: (Lr.reverse ++ Wr.reverse)[i] :: post) ∨
      (∃ pre post, m :: Wr = pre ++ ((Lr.reverse ++ Wr.reverse)[(i + 1) % (Lr.reverse ++ Wr.reverse).length]'(Nat.mod_lt _ (by omega))) :: (Lr.reverse ++ Wr.reverse)[i] :: post) := by
    intro i hi
    by_cases h : i < Lr.length
    · left
      obtain ⟨pre, post, e⟩ := tail_edge (t := M) h
      refine ⟨pre, post, ?_⟩
      have e1 : (Lr.reverse ++ Wr.reverse)[i] = Lr.reverse[i]'(by simpa using h) := List.getElem_append_left (by simpa using h)
      have e2 : (Lr.reverse ++ Wr.reverse)[(i + 1) % (Lr.reverse ++ Wr.reverse).length]'(Nat.mod_lt _ (by omega)) = (if h2 : i + 1 < Lr.length then Lr.reverse[i + 1]'(by simpa using h2) else M) := by
        have em : (i + 1) % (Lr.reverse ++ Wr.reverse).length = i + 1 := Nat.mod_eq_of_lt (by omega)
        simp only [em]
        split
        · rename_i h2
          exact List.getElem_append_left (by simpa using h2)
        · have : i + 1 = Lr.length := by omega
          simp only [this]
          exact z2
      rw [e1, e2]
      exact e
    · right
      have h' : i - Lr.length < Wr.length := by omega
      obtain ⟨pre, post, e⟩ := tail_edge (t := m) h'
      refine ⟨pre, post, ?_⟩
      have e1 : (Lr.reverse ++ Wr.reverse)[i] = Wr.reverse[i - Lr.length]'(by simpa using h') := by
        rw [List.getElem_append_right (by simp; omega)]
        simp
      have e2 : (Lr.reverse ++ Wr.reverse)[(i + 1) % (Lr.reverse ++ Wr.reverse).length]'(Nat.mod_lt _ (by omega)) = (if h2 : i - Lr.length + 1 < Wr.length then Wr.reverse[i - Lr.length + 1]'(by simpa using h2) else m) := by
        split
        · rename_i h2
          have em : (i + 1) % (Lr.reverse ++ Wr.reverse).length = i + 1 := Nat.mod_eq_of_lt (by omega)
          simp only [em]
          rw [List.getElem_append_right (by simp; omega)]
          have : i + 1 - Lr.reverse.length = i - Lr.length + 1 := by simp; omega
          simp only [this]
        · have em : (i + 1) % (Lr.reverse ++ Wr.reverse).length = 0 := by
            have : i + 1 = (Lr.reverse ++ Wr.reverse).length := by omega
            rw [this, Nat.mod_self]
          simp only [em]
          exact z1
      rw [e1, e2]
      exact e
  have turned : ∀ {p q : P} {pre post : List P}, m :: Wr = pre ++ q :: p :: post → (m :: Wr).map neg = pre.map neg ++ neg q :: neg p :: post.map neg := fun {p q pre post} e => by rw [e]; simp
  have C' : Chain S (neg (neg m)) (neg (neg M)) (M :: Lr) := by rw [neg_neg, neg_neg]; exact C
  have hT' : ∀ x, x ∈ S ↔ neg x ∈ T := fun x => by rw [hT, neg_neg]
  refine ⟨by omega, nodup, fun c hc => (hS c).mp (inS c hc), ⟨m, ?_, rfl, fun c hc cm => ?_⟩, fun i j hi hj h1 h2 => ?_, fun i hi x hx => ?_⟩
  · rw [List.getElem?_eq_getElem (by omega), z1]
  · rcases Lt.total c m with h | h | h
    · exact absurd h (C.least c (inS c hc))
    · exact absurd h cm
    · exact h
  · have d1 : (Lr.reverse ++ Wr.reverse)[j] ≠ (Lr.reverse ++ Wr.reverse)[i] := fun e => h1 (nodup_inj nodup e)
    have d2 : (Lr.reverse ++ Wr.reverse)[j] ≠ (Lr.reverse ++ Wr.reverse)[(i + 1) % (Lr.reverse ++ Wr.reverse).length]'(Nat.mod_lt _ (by omega)) := fun e => h2 (nodup_inj nodup e)
    have cj := side _ (List.getElem_mem hj)
    rcases edge i hi with ⟨pre, post, e⟩ | ⟨pre, post, e⟩
    · exact strict C D hT e cj d1 d2
    · have e' := turned e
      have cj' : neg (Lr.reverse ++ Wr.reverse)[j] ∈ (m :: Wr).map neg ∨ neg (neg (Lr.reverse ++ Wr.reverse)[j]) ∈ M :: Lr := by
        rw [neg_neg]
        exact cj.symm
      have k := strict D C' hT' e' cj' (fun z => d1 (neg_inj z)) (fun z => d2 (neg_inj z))
      rwa [turn_neg] at k
  · have xS := (hS x).mpr hx
    rcases edge i hi with ⟨pre, post, e⟩ | ⟨pre, post, e⟩
    · exact (Edges.at (by rw [← e]; exact C.left) : ∀ s ∈ S, 0 ≤ turn _ _ s) x xS
    · have e' := turned e
      have k := (Edges.at (by rw [← e']; exact D.left) : ∀ s ∈ T, 0 ≤ turn (neg (Lr.reverse ++ Wr.reverse)[i]) (neg ((Lr.reverse ++ Wr.reverse)[(i + 1) % (Lr.reverse ++ Wr.reverse).length]'(Nat.mod_lt _ (by omega)))) s) (neg x) ((hT' x).mp xS)
      rwa [turn_neg] at k
end Hull
set_option Elab.async false
set_option linter.all false
set_option maxRecDepth 100000
set_option maxHeartbeats 1000000
/-! sorted(s), s a set of pairs of ints of any size -/
namespace L2
open PySem PySem.Spec PyProof.Rows
/-- the pair that a list of ints is -/
def prOf : List Int → Int × Int
  | x :: y :: _ => (x, y)
  | _ => (0, 0)
theorem tupInts_pair {h : Heap} {b : Addr} {x y : Int} (t : TS.TupInts h (.ref b) [x, y]) : Srt.IsPair h (.ref b) x y := by
  obtain ⟨c, its, e, ⟨o, ho, hc, n, hd⟩, hi⟩ := t
  cases e
  obtain ⟨l, rfl⟩ : ∃ l : List Value, its = l.toArray := ⟨its.toList, by rw [Array.toArray_toList]⟩
  simp only at hi
  have hi2 : IntsAre l [x, y] := by simpa using hi
  cases hi2 with
  | cons _ t1 r1 =>
    cases r1 with
    | cons _ t2 r2 =>
      cases r2
      exact ⟨b, o, t1, t2, n, rfl, ho, hc, hd⟩
section
variable {P : Program} {w : World} {A : Around} {E : Value → Shared → Prop} {s : Shared}
theorem sorted_setP {a : Addr} {L : List (Addr × List Int)} {es : Array (Int × Value)} {ep : Nat} {t : SetTable} {Q : Value → Shared → Prop} (R : SetTR P w s.heap a L es ep t) (hnone : A.handled = none) (h2 : ∀ p ∈ L, ∃ x y, p.2 = [x, y])
    (fin : ∀ s' p (out : List Value) (c : Nat) (M : List (Addr × List Int)), (∀ b o, s.heap.get? b = some o → s'.heap.get? b = some o) → s'.gens = s.gens → s'.os = s.os → s.heap.objs.size ≤ p →
      s'.heap.get? p = some (seqObj "list" out.toArray c) → out = M.map (fun q => Value.ref q.1) → M.Perm L → M.Pairwise (fun q r => SrtO.lexB (prOf r.2) (prOf q.2) = false) → Q (.ref p) s') :
    wpAny (model P w) A (call (.builtin "sorted") [.ref a]) Q E s := by
  obtain ⟨o, ho, hex, hd⟩ := R.ob
  have many := R.few
  refine Calls.call_function_entry kind_sorted plain_sorted entry_sorted (args_sorted1 _) ?_
  unfold Builtin.«sorted»
  refine wpAny_bind (m := checkCount "sorted" 1 1 _) (wpAny_pure ?_)
  have esz := R.size
  refine wpAny_bind (collect_set (A := A.in1) hnone ⟨o, ho, hex.1, hd⟩ R.fits (by unfold scanBound; omega) R.tab.ris R.led fun s1 vs keep1 grow1 gens1 os1 pm => ?_)
  have rowsE : es.toList.map (·.2) = L.map fun q => Value.ref q.1 := by
    rw [R.rows]
    unfold rowsOf
    rw [List.map_map] <;> rfl
  rw [rowsE] at pm
  -- each value comes from a row
  have from_row : ∀ v ∈ vs, ∃ q ∈ L, v = Value.ref q.1 := fun v hv => by
    obtain ⟨q, hq, e⟩ := List.mem_map.mp (pm.mem_iff.mp hv)
    exact ⟨q, hq, e.symm⟩
  have lift : ∀ us : List Value, (∀ v ∈ us, ∃ q ∈ L, v = Value.ref q.1) → ∃ M : List (Addr × List Int), us = M.map (fun q => Value.ref q.1) ∧ ∀ q ∈ M, q ∈ L := by
    intro us
    induction us with
    | nil => exact fun _ => ⟨[], rfl, fun q hq => nomatch hq⟩
    | cons v us ih =>
      intro hv
      obtain ⟨q, hq, e⟩ := hv v List.mem_cons_self
      obtain ⟨M, eM, sM⟩ := ih fun u hu => hv u (List.mem_cons_of_mem _ hu)
      exact ⟨q :: M, by rw [List.map_cons, e, eM], List.forall_mem_cons.mpr ⟨hq, sM⟩⟩
  have key1 : ∀ q ∈ L, ∀ r ∈ L, q.1 = r.1 → q = r := fun q hq r hr e => by
    have a1 := R.tup q hq
    rw [e] at a1
    exact Prod.ext e (a1.inj (R.tup r hr))
  have back : ∀ M : List (Addr × List Int), (∀ q ∈ M, q ∈ L) → (M.map (fun q => Value.ref q.1)).Perm (L.map fun q => Value.ref q.1) → M.Perm L := by
    intro M sM pM
    have nL : L.Nodup := nodup_of_map R.nd
    have nR : (L.map fun q => Value.ref q.1).Nodup := by
      refine List.pairwise_map.mpr (List.Pairwise.imp_of_mem (fun {q r} hq hr hne e => ?_) nL)
      exact hne (key1 q hq r hr (Value.ref.inj e))
    refine (List.perm_ext_iff_of_nodup (nodup_of_map (pM.nodup_iff.mpr nR)) nL).mpr fun q => ⟨sM q, fun hq => ?_⟩
    obtain ⟨r, hr, e⟩ := List.mem_map.mp (pM.mem_iff.mpr (List.mem_map.mpr ⟨q, hq, rfl⟩))
    rw [← key1 r (sM r hr) q hq (Value.ref.inj e)]
    exact hr
  have len64 : vs.length < 64 := by
    rw [pm.length_eq, List.length_map]
    exact many
  refine wpAny_bind (wpAny_newList ?_ (by rw [sizeLine_eq]; omega))
  have newAt : (s1.heap.push (seqObj "list" vs.toArray 0)).get? s1.heap.objs.size = some (seqObj "list" vs.toArray 0) := Heap.get?_push_size _ rfl
  have ti : ∀ q ∈ L, TS.TupInts (s1.heap.push (seqObj "list" vs.toArray 0)) (.ref q.1) q.2 := fun q hq => tupInts_of (P := P) (w := w) (isT_keep (R.tup q hq) fun b u e => Heap.get?_push_of_some _ (keep1 b u e))
  have pairs : ∀ v ∈ vs, Srt.IsPair (s1.heap.push (seqObj "list" vs.toArray 0)) v (prOf (TS.intsOf (s1.heap.push (seqObj "list" vs.toArray 0)) v)).1 (prOf (TS.intsOf (s1.heap.push (seqObj "list" vs.toArray 0)) v)).2 := fun v hv => by
    obtain ⟨q, hq, rfl⟩ := from_row v hv
    obtain ⟨x, y, e⟩ := h2 q hq
    have z := ti q hq
    rw [z.ints, e]
    rw [e] at z
    exact tupInts_pair z
  refine wpAny_bind (wpAny_holding (wpAny_call_entry slot_list_sort ⟨_, newAt, rfl⟩ entry_list_sort (SrtO.list_sort_ord (s := { s1 with heap := s1.heap.push (seqObj "list" vs.toArray 0) }) (SrtO.swo_lex fun v => prOf (TS.intsOf (s1.heap.push (seqObj "list" vs.toArray 0)) v)) newAt (by rw [sizeLine_eq]; omega)
    (fun two => SrtO.pairs_sortableO (s := { s1 with heap := s1.heap.push (seqObj "list" vs.toArray 0) }) (by omega) pairs fun u e c => ?_) fun out so sb => ⟨_, rfl, ?_⟩) (args_list_sort _)))
  · cases newAt.symm.trans e
    exact absurd (Value.type.inj c) (by decide)
  · obtain ⟨c, hc⟩ := sortedHeap_at (vs := vs) (out := out.toArray) newAt
    obtain ⟨M, eM, sM⟩ := lift out fun v hv => from_row v (sb.perm.mem_iff.mp hv)
    have pL : M.Perm L := back M sM (by rw [← eM]; exact sb.perm.trans pm)
    have pw : M.Pairwise (fun q r => SrtO.lexB (prOf r.2) (prOf q.2) = false) := by
      rw [eM] at so
      refine List.Pairwise.imp_of_mem (fun {q r} hq hr z => ?_) (List.pairwise_map.mp so)
      have f1 := (ti q (sM q hq)).ints
      have f2 := (ti r (sM r hr)).ints
      simp only [f1, f2] at z
      exact z
    refine wpAny_pure ⟨_, rfl, fin _ s1.heap.objs.size out c M (fun b u e => ?_) gens1 os1 grow1 hc eM pL pw⟩
    have q := keep1 b u e
    have lt := Heap.lt_size q
    show (sortedHeap (s1.heap.push (seqObj "list" vs.toArray 0)) s1.heap.objs.size vs out.toArray).get? b = some u
    rw [sortedHeap_old (Nat.ne_of_lt lt) (by rw [size_push']; exact Nat.lt_succ_of_lt lt)]
    exact Heap.get?_push_of_some _ q
end
/-- sorted(s), s a set of pairs of ints: a new list of them, ascending -/
def rSortedSP (K : PySem.W.Frag) (P : Program) (w : World) : List V → Hp → VK → Prop := fun vs H Q => ∃ (a : Addr) (L : List (Addr × List Int)), vs = [V.ref a] ∧ H a = some (SetTO P w a L) ∧ (∀ p ∈ L, SqT K H p.1 (p.2.map V.int)) ∧ (∀ p ∈ L, ∃ x y, p.2 = [x, y]) ∧
  ∀ (M : List (Addr × List Int)) (p : Addr), M.Perm L → (M.map (·.2)).Nodup → M.length < 64 → M.Pairwise (fun q r => SrtO.lexB (prOf r.2) (prOf q.2) = false) → H p = none → Q (.ref p) (upd H p (.lst (M.map fun q => V.ref q.1)))
section
variable {X : Cx}
theorem cr_sortedSP (hc : X.calm = true) : CallR X (.builtin "sorted") (rSortedSP X.K X.prog X.w) := by
  rintro pins s σ H vs us Q I r ⟨a, L, rfl, ha, hk, hp2, q⟩
  have base : SetT0 X.prog X.w s.heap a L := (I.hok a _ ha).1
  obtain ⟨es, ep, t, R⟩ := base.full fun p hp => I.isT (hk p hp)
  rw [Vals.ref1 r]
  refine sorted_setP R (I.ok.hd hc) hp2 fun s' p out c M keep gs os grow at_ eo pm pw => ?_
  have few : M.length < 64 := by
    rw [pm.length_eq]
    exact R.few
  have free : H p = none := I.hok.fresh grow
  have vals : Vals (M.map fun q => V.ref q.1) out := by
    rw [eo]
    exact vals_of_refs M
  have J : Inv X pins σ (upd H p (.lst (M.map fun q => V.ref q.1))) { s with heap := s'.heap, gens := s'.gens, drawn := s'.drawn, toks := s'.toks } :=
    I.call (ch := []) (Un.laid keep grow free) (I.hok.laid keep grow ⟨by rw [List.length_map, sizeLine_eq]; omega, out, c, vals, at_⟩) (by rw [gs]; exact I.bare) (fun _ z => nomatch z)
  have e : s' = { s with heap := s'.heap, gens := s'.gens, drawn := s'.drawn, toks := s'.toks } := by
    cases s'
    cases s
    cases os
    rfl
  rw [e]
  exact ⟨.ref p, _, J, rfl, q M p pm ((pm.map (·.2)).nodup_iff.mpr R.nd) few pw free⟩
end
end L2
set_option Elab.async false
set_option linter.all false
set_option maxRecDepth 100000
set_option maxHeartbeats 1000000
/-! min(xs), max(xs), xs a list of pairs of ints -/
namespace L2
open PySem PySem.Spec PyProof.Rows
/-- op answers bt at every heap that holds what h0 held -/
def CmpK (prog : Program) (w : World) (A : Around) (h0 : Heap) (op : CmpOp) (vs : List Value) (bt : Nat → Nat → Bool) : Prop :=
  ∀ (i j : Nat) (u v : Value) (s : Shared) (Q : Value → Shared → Prop) (E : Value → Shared → Prop), (∀ b o, h0.get? b = some o → s.heap.get? b = some o) → vs[i]? = some u → vs[j]? = some v → Q (.bool (bt i j)) s → wpAny (model prog w) A (richCompare op u v) Q E s

section
variable {prog : Program} {w : World} {A : Around} {l it : Addr} {vs : List Value} {h0 : Heap} {bt : Nat → Nat → Bool}
theorem pm_min_turn {Fin : Result → Shared → Prop} (calm : A.handled = none) (away : l ≠ it) (itNew : h0.objs.size ≤ it) (lst : h0.IsList l vs.toArray) (cmp : CmpK prog w A.in1 h0 .Lt vs bt) (cell : Addr) (cellNew : h0.objs.size ≤ cell) (cellIt : cell ≠ it) :
    ∀ (left j : Nat) (s : Shared) (best : Value) (ep : Nat), vs.length - (j + 1) = left → j + 1 ≤ vs.length → (∀ b o, h0.get? b = some o → s.heap.get? b = some o) → s.heap.IsListIter it l (j + 1) → vs[argBest bt j]? = some best →
    s.heap.get? cell = some { cls := .type "list", dict := none, data := .seq #[best, best] ep, slots := #[] } →
    (∀ v h' tk, vs[argBest bt (vs.length - 1)]? = some v → (∀ b o, h0.get? b = some o → h'.get? b = some o) → Fin (.ok (.ret v)) { s with heap := h', toks := tk }) →
    codeAny (model prog w) A (.builtin "min.loop" ⟨[.ref it, .none, .ref cell], []⟩) Fin s := by
  have W := Walks.list (prog := prog) (w := w) (A := A.in1) calm it l away vs.toArray
  have many : vs.toArray.size = vs.length := List.size_toArray ..
  have named : (toString "min" ++ toString ".loop" : String) = "min.loop" := by decide
  have old : ∀ {b : Addr} {o : Obj}, h0.get? b = some o → b ∉ [it] ∧ b ≠ cell := fun {b o} e => by
    have z := Heap.lt_size e
    refine ⟨fun m => ?_, fun m => ?_⟩
    · rw [List.mem_singleton.mp m] at z
      exact absurd z (Nat.not_lt.mpr itNew)
    · rw [m] at z
      exact absurd z (Nat.not_lt.mpr cellNew)
  intro left
  induction left with
  | zero =>
    intro j s best ep e1 e2 keep iter eb hc fin
    have whole : j + 1 = vs.length := by omega
    refine codeAny_builtin PySem.F.entry_min_loop ?_
    rw [Around.under_plainId PySem.F.plain_min_loop _]
    show wpAny _ A.in1 (seqItems? (.ref cell) >>= _) _ _ s
    refine wpAny_bind (wpAny_seqItems hc rfl ?_)
    show wpAny _ A.in1 (tryCatch (pyNext (.ref it)) _ >>= _) _ _ s
    refine wpAny_bind (wpAny_tryCatch (W.done s _ _ ⟨by rw [many, ← whole]; exact iter, let ⟨o, ho, r⟩ := lst; ⟨o, keep _ _ ho, r⟩⟩ fun h' tk k1 => ?_))
    have hc1 := k1 cell _ (by simpa using cellIt) hc
    show wpAny _ A.in1 (updateSeq cell (fun _ => #[]) >>= _) _ _ _
    refine wpAny_bind ?_
    refine wpAny_updateSeq hc1 rfl (wpAny_bind (wpAny_letGo (wpAny_pure ?_)))
    refine fin best _ tk (by rw [← whole]; exact eb) fun b o e => ?_
    exact (Heap.get?_update_other _ _ (Ne.symm (old e).2)).trans (k1 b o (old e).1 (keep b o e))
  | succ left ih =>
    intro j s best ep e1 e2 keep iter eb hc fin
    have more : j + 1 < vs.length := by omega
    refine codeAny_builtin PySem.F.entry_min_loop ?_
    rw [Around.under_plainId PySem.F.plain_min_loop _]
    show wpAny _ A.in1 (seqItems? (.ref cell) >>= _) _ _ s
    refine wpAny_bind (wpAny_seqItems hc rfl ?_)
    show wpAny _ A.in1 (tryCatch (pyNext (.ref it)) _ >>= _) _ _ s
    refine wpAny_bind (wpAny_tryCatch (W.item (j + 1) s _ _ (by rw [many]; exact more) ⟨iter, let ⟨o, ho, r⟩ := lst; ⟨o, keep _ _ ho, r⟩⟩ fun v h' tk ev iter1 k1 => ?_))
    have ev1 : vs[j + 1]? = some v := by simpa using ev
    have hc1 := k1 cell _ (by simpa using cellIt) hc
    have keep1 : ∀ b o, h0.get? b = some o → h'.get? b = some o := fun b o e => k1 b o (old e).1 (keep b o e)
    show wpAny _ A.in1 (tryCatch (holding [v, v] (richCompare .Lt v best >>= _)) _ >>= _) _ _ _
    refine wpAny_bind (wpAny_tryCatch (wpAny_holding (wpAny_bind (cmp (j + 1) (argBest bt j) v best { s with heap := h', toks := tk } _ _ keep1 ev1 eb ?_))))
    refine wpAny_bind (wpAny_holding (wpAny_truthy_bool ?_))
    refine wpAny_bind (wpAny_letGo (wpAny_pure ?_))
    cases better : bt (j + 1) (argBest bt j) with
    | true =>
      simp only [if_true]
      refine wpAny_bind ?_
      refine wpAny_updateSeq hc1 rfl (wpAny_bind (wpAny_letGo ?_))
      rw [named]
      refine wpAny_pure ⟨plainId_quiet PySem.F.plain_min_loop _, ih (j + 1) _ v _ (by omega) more (fun b o e => ?_) ?_ (by simp only [argBest, better, if_true]; exact ev1) (Heap.get?_update_self _ hc1 rfl) fun v2 h2 tk2 a1 a2 => fin v2 h2 tk2 a1 a2⟩
      · exact (Heap.get?_update_other _ _ (Ne.symm (old e).2)).trans (keep1 b o e)
      · exact iter1.1.at fun o e => (Heap.get?_update_other _ _ cellIt).trans e
    | false =>
      simp only [Bool.false_eq_true, if_false]
      refine wpAny_bind (wpAny_letGo ?_)
      rw [named]
      exact wpAny_pure ⟨plainId_quiet PySem.F.plain_min_loop _, ih (j + 1) _ best ep (by omega) more keep1 iter1.1 (by simp only [argBest, better, Bool.false_eq_true, if_false]; exact eb) hc1 fun v2 h2 tk2 a1 a2 => fin v2 h2 tk2 a1 a2⟩
theorem pm_min {E Q : Value → Shared → Prop} {s : Shared} (calm : A.handled = none) (lst : s.heap.IsList l vs.toArray) (some1 : 0 < vs.length) (cmp : CmpK prog w A.in1 s.heap .Lt vs bt)
    (fin : ∀ v h' tk, vs[argBest bt (vs.length - 1)]? = some v → (∀ b o, s.heap.get? b = some o → h'.get? b = some o) → Q v { s with heap := h', toks := tk }) : wpAny (model prog w) A (call (.builtin "min") [.ref l]) Q E s := by
  have named : (toString "min" ++ toString ".loop" : String) = "min.loop" := by decide
  have lt : l < s.heap.objs.size := let ⟨_, e, _⟩ := lst; Heap.lt_size e
  refine call_function_tree PySem.F.kind_min PySem.F.plain_min PySem.F.entry_min (PySem.F.args_min1 _) ?_
  show wpAny _ A.in1 (Builtin.Builtins.bindParams "min" ["key", "default"] 0 ⟨[], []⟩ >>= _) _ _ s
  refine wpAny_bind (wpAny_of_eq (show Builtin.Builtins.bindParams "min" ["key", "default"] 0 ⟨[], []⟩ = pure [none, none] from rfl) ?_)
  refine wpAny_bind (wpAny_pure ?_)
  refine wpAny_bind (wpAny_pyIter_list lst ?_)
  refine wpAny_bind (wpAny_newObj_type ?_)
  rw [named]
  generalize hH : (s.heap.push { cls := .type "list_iterator", data := .fields #[.ref l, .int 0 0] }) = H1
  have size1 : H1.objs.size = s.heap.objs.size + 1 := by rw [← hH, Heap.size_push]
  have atIt : H1.IsListIter s.heap.objs.size l 0 := by
    rw [← hH]
    exact ⟨_, Heap.get?_push_size _ rfl, rfl, rfl⟩
  have keep1 : ∀ b o, s.heap.get? b = some o → H1.get? b = some o := fun b o e => by
    rw [← hH]
    exact Heap.get?_push_of_some _ e
  refine wpAny_pure ⟨plainId_quiet PySem.F.plain_min_loop _, ?_⟩
  have W := Walks.list (prog := prog) (w := w) (A := A.in1) calm s.heap.objs.size l (Nat.ne_of_lt lt) vs.toArray
  have many : vs.toArray.size = vs.length := List.size_toArray ..
  have hcell : (H1.push { cls := .type "list", dict := none, data := .seq #[] 0, slots := #[] }).get? H1.objs.size = some { cls := .type "list", dict := none, data := .seq #[] 0, slots := #[] } := Heap.get?_push_size _ rfl
  have keep2 : ∀ b o, H1.get? b = some o → (H1.push { cls := .type "list", dict := none, data := .seq #[] 0, slots := #[] }).get? b = some o := fun b o e => Heap.get?_push_of_some _ e
  refine codeAny_builtin PySem.F.entry_min_loop ?_
  rw [Around.under_plainId PySem.F.plain_min_loop _]
  show wpAny _ A.in1 (seqItems? (.ref H1.objs.size) >>= _) _ _ { s with heap := H1.push { cls := .type "list", dict := none, data := .seq #[] 0, slots := #[] } }
  refine wpAny_bind (wpAny_seqItems hcell rfl ?_)
  show wpAny _ A.in1 (tryCatch (pyNext (.ref s.heap.objs.size)) _ >>= _) _ _ _
  refine wpAny_bind (wpAny_tryCatch (W.item 0 _ _ _ (by rw [many]; exact some1) ⟨atIt.at fun o e => keep2 _ _ e, let ⟨o, ho, r⟩ := lst; ⟨o, keep2 _ _ (keep1 _ _ ho), r⟩⟩ fun v h' tk ev iter1 k1 => ?_))
  have ev1 : vs[0]? = some v := by simpa using ev
  have off : H1.objs.size ≠ s.heap.objs.size := by omega
  have hc1 := k1 H1.objs.size _ (by simpa using off) hcell
  show wpAny _ A.in1 (updateSeq H1.objs.size (fun _ => #[v, v]) >>= _) _ _ _
  refine wpAny_bind ?_
  refine wpAny_updateSeq hc1 rfl ?_
  rw [named]
  refine wpAny_pure ⟨plainId_quiet PySem.F.plain_min_loop _, pm_min_turn calm (Nat.ne_of_lt lt) (Nat.le_refl _) lst cmp H1.objs.size (by omega) off _ 0 _ v _ rfl some1 (fun b o e => ?_) ?_ ev1 (Heap.get?_update_self _ hc1 rfl) fun v2 h2 tk2 a1 a2 => fin v2 h2 tk2 a1 a2⟩
  · have z := Heap.lt_size e
    refine (Heap.get?_update_other _ _ (Nat.ne_of_gt (show b < H1.objs.size by rw [size1]; exact Nat.lt_succ_of_lt z))).trans (k1 b o (fun m => ?_) (keep2 _ _ (keep1 _ _ e)))
    rw [List.mem_singleton.mp m] at z
    exact absurd z (Nat.lt_irrefl _)
  · exact iter1.1.at fun o e => (Heap.get?_update_other _ _ off).trans e
end

section
variable {prog : Program} {w : World} {A : Around} {l it : Addr} {vs : List Value} {h0 : Heap} {bt : Nat → Nat → Bool}
theorem pm_max_turn {Fin : Result → Shared → Prop} (calm : A.handled = none) (away : l ≠ it) (itNew : h0.objs.size ≤ it) (lst : h0.IsList l vs.toArray) (cmp : CmpK prog w A.in1 h0 .Gt vs bt) (cell : Addr) (cellNew : h0.objs.size ≤ cell) (cellIt : cell ≠ it) :
    ∀ (left j : Nat) (s : Shared) (best : Value) (ep : Nat), vs.length - (j + 1) = left → j + 1 ≤ vs.length → (∀ b o, h0.get? b = some o → s.heap.get? b = some o) → s.heap.IsListIter it l (j + 1) → vs[argBest bt j]? = some best →
    s.heap.get? cell = some { cls := .type "list", dict := none, data := .seq #[best, best] ep, slots := #[] } →
    (∀ v h' tk, vs[argBest bt (vs.length - 1)]? = some v → (∀ b o, h0.get? b = some o → h'.get? b = some o) → Fin (.ok (.ret v)) { s with heap := h', toks := tk }) →
    codeAny (model prog w) A (.builtin "max.loop" ⟨[.ref it, .none, .ref cell], []⟩) Fin s := by
  have W := Walks.list (prog := prog) (w := w) (A := A.in1) calm it l away vs.toArray
  have many : vs.toArray.size = vs.length := List.size_toArray ..
  have named : (toString "max" ++ toString ".loop" : String) = "max.loop" := by decide
  have old : ∀ {b : Addr} {o : Obj}, h0.get? b = some o → b ∉ [it] ∧ b ≠ cell := fun {b o} e => by
    have z := Heap.lt_size e
    refine ⟨fun m => ?_, fun m => ?_⟩
    · rw [List.mem_singleton.mp m] at z
      exact absurd z (Nat.not_lt.mpr itNew)
    · rw [m] at z
      exact absurd z (Nat.not_lt.mpr cellNew)
  intro left
  induction left with
  | zero =>
    intro j s best ep e1 e2 keep iter eb hc fin
    have whole : j + 1 = vs.length := by omega
    refine codeAny_builtin PySem.F.entry_max_loop ?_
    rw [Around.under_plainId PySem.F.plain_max_loop _]
    show wpAny _ A.in1 (seqItems? (.ref cell) >>= _) _ _ s
    refine wpAny_bind (wpAny_seqItems hc rfl ?_)
    show wpAny _ A.in1 (tryCatch (pyNext (.ref it)) _ >>= _) _ _ s
    refine wpAny_bind (wpAny_tryCatch (W.done s _ _ ⟨by rw [many, ← whole]; exact iter, let ⟨o, ho, r⟩ := lst; ⟨o, keep _ _ ho, r⟩⟩ fun h' tk k1 => ?_))
    have hc1 := k1 cell _ (by simpa using cellIt) hc
    show wpAny _ A.in1 (updateSeq cell (fun _ => #[]) >>= _) _ _ _
    refine wpAny_bind ?_
    refine wpAny_updateSeq hc1 rfl (wpAny_bind (wpAny_letGo (wpAny_pure ?_)))
    refine fin best _ tk (by rw [← whole]; exact eb) fun b o e => ?_
    exact (Heap.get?_update_other _ _ (Ne.symm (old e).2)).trans (k1 b o (old e).1 (keep b o e))
  | succ left ih =>
    intro j s best ep e1 e2 keep iter eb hc fin
    have more : j + 1 < vs.length := by omega
    refine codeAny_builtin PySem.F.entry_max_loop ?_
    rw [Around.under_plainId PySem.F.plain_max_loop _]
    show wpAny _ A.in1 (seqItems? (.ref cell) >>= _) _ _ s
    refine wpAny_bind (wpAny_seqItems hc rfl ?_)
    show wpAny _ A.in1 (tryCatch (pyNext (.ref it)) _ >>= _) _ _ s
    refine wpAny_bind (wpAny_tryCatch (W.item (j + 1) s _ _ (by rw [many]; exact more) ⟨iter, let ⟨o, ho, r⟩ := lst; ⟨o, keep _ _ ho, r⟩⟩ fun v h' tk ev iter1 k1 => ?_))
    have ev1 : vs[j + 1]? = some v := by simpa using ev
    have hc1 := k1 cell _ (by simpa using cellIt) hc
    have keep1 : ∀ b o, h0.get? b = some o → h'.get? b = some o := fun b o e => k1 b o (old e).1 (keep b o e)
    show wpAny _ A.in1 (tryCatch (holding [v, v] (richCompare .Gt v best >>= _)) _ >>= _) _ _ _
    refine wpAny_bind (wpAny_tryCatch (wpAny_holding (wpAny_bind (cmp (j + 1) (argBest bt j) v best { s with heap := h', toks := tk } _ _ keep1 ev1 eb ?_))))
    refine wpAny_bind (wpAny_holding (wpAny_truthy_bool ?_))
    refine wpAny_bind (wpAny_letGo (wpAny_pure ?_))
    cases better : bt (j + 1) (argBest bt j) with
    | true =>
      simp only [if_true]
      refine wpAny_bind ?_
      refine wpAny_updateSeq hc1 rfl (wpAny_bind (wpAny_letGo ?_))
      rw [named]
      refine wpAny_pure ⟨plainId_quiet PySem.F.plain_max_loop _, ih (j + 1) _ v _ (by omega) more (fun b o e => ?_) ?_ (by simp only [argBest, better, if_true]; exact ev1) (Heap.get?_update_self _ hc1 rfl) fun v2 h2 tk2 a1 a2 => fin v2 h2 tk2 a1 a2⟩
      · exact (Heap.get?_update_other _ _ (Ne.symm (old e).2)).trans (keep1 b o e)
      · exact iter1.1.at fun o e => (Heap.get?_update_other _ _ cellIt).trans e
    | false =>
      simp only [Bool.false_eq_true, if_false]
      refine wpAny_bind (wpAny_letGo ?_)
      rw [named]
      exact wpAny_pure ⟨plainId_quiet PySem.F.plain_max_loop _, ih (j + 1) _ best ep (by omega) more keep1 iter1.1 (by simp only [argBest, better, Bool.false_eq_true, if_false]; exact eb) hc1 fun v2 h2 tk2 a1 a2 => fin v2 h2 tk2 a1 a2⟩
theorem pm_max {E Q : Value → Shared → Prop} {s : Shared} (calm : A.handled = none) (lst : s.heap.IsList l vs.toArray) (some1 : 0 < vs.length) (cmp : CmpK prog w A.in1 s.heap .Gt vs bt)
    (fin : ∀ v h' tk, vs[argBest bt (vs.length - 1)]? = some v → (∀ b o, s.heap.get? b = some o → h'.get? b = some o) → Q v { s with heap := h', toks := tk }) : wpAny (model prog w) A (call (.builtin "max") [.ref l]) Q E s := by
  have named : (toString "max" ++ toString ".loop" : String) = "max.loop" := by decide
  have lt : l < s.heap.objs.size := let ⟨_, e, _⟩ := lst; Heap.lt_size e
  refine call_function_tree PySem.F.kind_max PySem.F.plain_max PySem.F.entry_max (PySem.F.args_max1 _) ?_
  show wpAny _ A.in1 (Builtin.Builtins.bindParams "max" ["key", "default"] 0 ⟨[], []⟩ >>= _) _ _ s
  refine wpAny_bind (wpAny_of_eq (show Builtin.Builtins.bindParams "max" ["key", "default"] 0 ⟨[], []⟩ = pure [none, none] from rfl) ?_)
  refine wpAny_bind (wpAny_pure ?_)
  refine wpAny_bind (wpAny_pyIter_list lst ?_)
  refine wpAny_bind (wpAny_newObj_type ?_)
  rw [named]
  generalize hH : (s.heap.push { cls := .type "list_iterator", data := .fields #[.ref l, .int 0 0] }) = H1
  have size1 : H1.objs.size = s.heap.objs.size + 1 := by rw [← hH, Heap.size_push]
  have atIt : H1.IsListIter s.heap.objs.size l 0 := by
    rw [← hH]
    exact ⟨_, Heap.get?_push_size _ rfl, rfl, rfl⟩
  have keep1 : ∀ b o, s.heap.get? b = some o → H1.get? b = some o := fun b o e => by
    rw [← hH]
    exact Heap.get?_push_of_some _ e
  refine wpAny_pure ⟨plainId_quiet PySem.F.plain_max_loop _, ?_⟩
  have W := Walks.list (prog := prog) (w := w) (A := A.in1) calm s.heap.objs.size l (Nat.ne_of_lt lt) vs.toArray
  have many : vs.toArray.size = vs.length := List.size_toArray ..
  have hcell : (H1.push { cls := .type "list", dict := none, data := .seq #[] 0, slots := #[] }).get? H1.objs.size = some { cls := .type "list", dict := none, data := .seq #[] 0, slots := #[] } := Heap.get?_push_size _ rfl
  have keep2 : ∀ b o, H1.get? b = some o → (H1.push { cls := .type "list", dict := none, data := .seq #[] 0, slots := #[] }).get? b = some o := fun b o e => Heap.get?_push_of_some _ e
  refine codeAny_builtin PySem.F.entry_max_loop ?_
  rw [Around.under_plainId PySem.F.plain_max_loop _]
  show wpAny _ A.in1 (seqItems? (.ref H1.objs.size) >>= _) _ _ { s with heap := H1.push { cls := .type "list", dict := none, data := .seq #[] 0, slots := #[] } }
  refine wpAny_bind (wpAny_seqItems hcell rfl ?_)
  show wpAny _ A.in1 (tryCatch (pyNext (.ref s.heap.objs.size)) _ >>= _) _ _ _
  refine wpAny_bind (wpAny_tryCatch (W.item 0 _ _ _ (by rw [many]; exact some1) ⟨atIt.at fun o e => keep2 _ _ e, let ⟨o, ho, r⟩ := lst; ⟨o, keep2 _ _ (keep1 _ _ ho), r⟩⟩ fun v h' tk ev iter1 k1 => ?_))
  have ev1 : vs[0]? = some v := by simpa using ev
  have off : H1.objs.size ≠ s.heap.objs.size := by omega
  have hc1 := k1 H1.objs.size _ (by simpa using off) hcell
  show wpAny _ A.in1 (updateSeq H1.objs.size (fun _ => #[v, v]) >>= _) _ _ _
  refine wpAny_bind ?_
  refine wpAny_updateSeq hc1 rfl ?_
  rw [named]
  refine wpAny_pure ⟨plainId_quiet PySem.F.plain_max_loop _, pm_max_turn calm (Nat.ne_of_lt lt) (Nat.le_refl _) lst cmp H1.objs.size (by omega) off _ 0 _ v _ rfl some1 (fun b o e => ?_) ?_ ev1 (Heap.get?_update_self _ hc1 rfl) fun v2 h2 tk2 a1 a2 => fin v2 h2 tk2 a1 a2⟩
  · have z := Heap.lt_size e
    refine (Heap.get?_update_other _ _ (Nat.ne_of_gt (show b < H1.objs.size by rw [size1]; exact Nat.lt_succ_of_lt z))).trans (k1 b o (fun m => ?_) (keep2 _ _ (keep1 _ _ e)))
    rw [List.mem_singleton.mp m] at z
    exact absurd z (Nat.lt_irrefl _)
  · exact iter1.1.at fun o e => (Heap.get?_update_other _ _ off).trans e
end

/-! the order of pairs -/
def lexO (p q : Int × Int) : Bool := decide (p.1 < q.1 ∨ (p.1 = q.1 ∧ p.2 < q.2))
theorem lexO_iff {p q : Int × Int} : lexO p q = true ↔ p.1 < q.1 ∨ (p.1 = q.1 ∧ p.2 < q.2) := decide_eq_true_iff
theorem lexLt2 (a b c d : Int) : HT.lexLt [a, b] [c, d] = lexO (a, b) (c, d) := by
  unfold lexO
  simp only [HT.lexLt]
  by_cases h1 : a = c
  · subst h1
    simp
    omega
  · simp [h1]
theorem argBest_lex (f : Nat → Int × Int) : ∀ n, argBest (fun i j => lexO (f i) (f j)) n ≤ n ∧ ∀ j, j ≤ n → lexO (f j) (f (argBest (fun i j => lexO (f i) (f j)) n)) = false := by
  intro n
  induction n with
  | zero =>
    refine ⟨Nat.le_refl _, fun j hj => ?_⟩
    rw [Nat.le_zero.mp hj]
    refine decide_eq_false ?_
    show ¬ ((f 0).1 < (f 0).1 ∨ ((f 0).1 = (f 0).1 ∧ (f 0).2 < (f 0).2))
    omega
  | succ n ih =>
    obtain ⟨i1, i2⟩ := ih
    unfold argBest
    generalize argBest (fun i j => lexO (f i) (f j)) n = m at i1 i2 ⊢
    cases hb : lexO (f (n + 1)) (f m) with
    | true =>
      rw [if_pos rfl]
      refine ⟨Nat.le_refl _, fun j hj => ?_⟩
      have hm := lexO_iff.mp hb
      by_cases e : j = n + 1
      · subst e
        exact decide_eq_false (by omega)
      · have := of_decide_eq_false (i2 j (by omega))
        exact decide_eq_false (by omega)
    | false =>
      rw [if_neg (by decide)]
      refine ⟨by omega, fun j hj => ?_⟩
      by_cases e : j = n + 1
      · rw [e]
        exact hb
      · exact i2 j (by omega)
theorem argBest_gex (f : Nat → Int × Int) : ∀ n, argBest (fun i j => lexO (f j) (f i)) n ≤ n ∧ ∀ j, j ≤ n → lexO (f (argBest (fun i j => lexO (f j) (f i)) n)) (f j) = false := by
  intro n
  induction n with
  | zero =>
    refine ⟨Nat.le_refl _, fun j hj => ?_⟩
    rw [Nat.le_zero.mp hj]
    refine decide_eq_false ?_
    show ¬ ((f 0).1 < (f 0).1 ∨ ((f 0).1 = (f 0).1 ∧ (f 0).2 < (f 0).2))
    omega
  | succ n ih =>
    obtain ⟨i1, i2⟩ := ih
    unfold argBest
    generalize argBest (fun i j => lexO (f j) (f i)) n = m at i1 i2 ⊢
    cases hb : lexO (f m) (f (n + 1)) with
    | true =>
      rw [if_pos rfl]
      refine ⟨Nat.le_refl _, fun j hj => ?_⟩
      have hm := lexO_iff.mp hb
      by_cases e : j = n + 1
      · subst e
        exact decide_eq_false (by omega)
      · have := of_decide_eq_false (i2 j (by omega))
        exact decide_eq_false (by omega)
    | false =>
      rw [if_neg (by decide)]
      refine ⟨by omega, fun j hj => ?_⟩
      by_cases e : j = n + 1
      · rw [e]
        exact hb
      · exact i2 j (by omega)
/-- < and > of two pairs that stand in the heap -/
theorem ints_pair {l : List Value} {x y : Int} (h : IntsAre l [x, y]) : ∃ t u, l = [.int x t, .int y u] := by
  cases h with
  | cons _ t1 r1 =>
    cases r1 with
    | cons _ t2 r2 =>
      cases r2
      exact ⟨t1, t2, rfl⟩
section
variable {prog : Program} {w : World} {A : Around} {s : Shared}
theorem rich_lt_pair {a b : Addr} {x y z u : Int} {Q E : Value → Shared → Prop} (h1 : TS.TupInts s.heap (.ref a) [x, y]) (h2 : TS.TupInts s.heap (.ref b) [z, u]) (hu : A.units < cLine) (q : Q (.bool (lexO (x, y) (z, u))) s) : wpAny (model prog w) A (richCompare .Lt (.ref a) (.ref b)) Q E s := by
  obtain ⟨c, i1, e1, T1, I1⟩ := h1
  obtain ⟨d, i2, e2, T2, I2⟩ := h2
  cases e1
  cases e2
  exact HT.lt_tupInts T1 T2 I1 I2 hu (by rw [lexLt2]; exact q)
theorem rich_gt_pair {a b : Addr} {x y z u : Int} {Q E : Value → Shared → Prop} (h1 : TS.TupInts s.heap (.ref a) [x, y]) (h2 : TS.TupInts s.heap (.ref b) [z, u]) (hu : A.units < cLine) (q : Q (.bool (lexO (z, u) (x, y))) s) : wpAny (model prog w) A (richCompare .Gt (.ref a) (.ref b)) Q E s := by
  obtain ⟨c, i1, e1, T1, I1⟩ := h1
  obtain ⟨d, i2, e2, T2, I2⟩ := h2
  cases e1
  cases e2
  obtain ⟨t1, t2, k1⟩ := ints_pair I1
  obtain ⟨t3, t4, k2⟩ := ints_pair I2
  obtain rfl : i1 = #[.int x t1, .int y t2] := by rw [← Array.toArray_toList (xs := i1), k1]
  obtain rfl : i2 = #[.int z t3, .int u t4] := by rw [← Array.toArray_toList (xs := i2), k2]
  refine Ob.RcOp.tuples_gt (e := fun j => if j = 0 then x == z else y == u) (r := fun j => if j = 0 then decide (x > z) else decide (y > u)) T1 T2 hu (fun j p1 p2 => ?_) (fun j p1 p2 _ => ?_) prog w E Q ?_
  · rcases (show j = 0 ∨ j = 1 by simp at p1; omega) with rfl | rfl
    · exact SeqAt.EqAt.int_int x t1 z t3
    · exact SeqAt.EqAt.int_int y t2 u t4
  · rcases (show j = 0 ∨ j = 1 by simp at p1; omega) with rfl | rfl
    · intro P W E' Q' q'
      exact richCompare_gives (op := .Gt) (typeIs_int _ _ _) (typeIs_int _ _ _) PySem.F.slot_int_gt PySem.F.entry_int_gt (PySem.F.args_int_gt_2 _ _) (gives_int_gt _ _ _ _) (fun x => nomatch x) q'
    · intro P W E' Q' q'
      exact richCompare_gives (op := .Gt) (typeIs_int _ _ _) (typeIs_int _ _ _) PySem.F.slot_int_gt PySem.F.entry_int_gt (PySem.F.args_int_gt_2 _ _) (gives_int_gt _ _ _ _) (fun x => nomatch x) q'
  · have e : Ob.lexAt (fun j => if j = 0 then x == z else y == u) (fun j => if j = 0 then decide (x > z) else decide (y > u)) (decide ((#[Value.int x t1, .int y t2] : Array Value).size > (#[Value.int z t3, .int u t4] : Array Value).size)) 0 (min (#[Value.int x t1, .int y t2] : Array Value).size (#[Value.int z t3, .int u t4] : Array Value).size) = lexO (z, u) (x, y) := by
      show Ob.lexAt _ _ (decide (2 > 2)) 0 2 = _
      simp only [Ob.lexAt, lexO]
      by_cases h1 : x = z
      · subst h1
        by_cases h2 : y = u
        · subst h2
          simp
        · simp [h2]
      · simp [h1]
        omega
    rw [e]
    exact q
end
/-- min(xs), max(xs), xs a list of pairs of ints: an item that no other is beside -/
def rMinP (K : PySem.W.Frag) (f : Int × Int → Int × Int → Bool) : List V → Hp → VK → Prop := fun vs H Q => ∃ (a : Addr) (ks : List (Addr × (Int × Int))), vs = [V.ref a] ∧ SqL K H a (ks.map fun p => V.ref p.1) ∧ (∀ p ∈ ks, SqT K H p.1 [.int p.2.1, .int p.2.2]) ∧ ks ≠ [] ∧
  ∀ p, p ∈ ks → (∀ r ∈ ks, f r.2 p.2 = false) → Q (.ref p.1) H
theorem refs_of_valsP : ∀ {ks : List (Addr × (Int × Int))} {us : List Value}, Vals (ks.map fun p => V.ref p.1) us → us = ks.map fun p => Value.ref p.1
  | [], _, .nil => rfl
  | p :: ks, _, .cons r t => by
    cases r
    rw [refs_of_valsP t] <;> rfl
section
variable {X : Cx}
theorem cmpK_of {pins : List (Addr × Obj)} {σ : St} {H : Hp} {s : Shared} (I : Inv X pins σ H s) {ks : List (Addr × (Int × Int))} (hk : ∀ p ∈ ks, SqT X.K H p.1 [.int p.2.1, .int p.2.2]) {A : Around} (hu : A.units < cLine) :
    CmpK X.prog X.w A s.heap .Lt (ks.map fun p => Value.ref p.1) (fun i j => lexO ((ks.map (·.2)).getD i (0, 0)) ((ks.map (·.2)).getD j (0, 0))) ∧ CmpK X.prog X.w A s.heap .Gt (ks.map fun p => Value.ref p.1) (fun i j => lexO ((ks.map (·.2)).getD j (0, 0)) ((ks.map (·.2)).getD i (0, 0))) := by
  have at_ : ∀ {i : Nat} {u : Value} {s' : Shared}, (∀ b o, s.heap.get? b = some o → s'.heap.get? b = some o) → (ks.map fun p => Value.ref p.1)[i]? = some u → ∃ a, u = .ref a ∧ TS.TupInts s'.heap (.ref a) [((ks.map (·.2)).getD i (0, 0)).1, ((ks.map (·.2)).getD i (0, 0)).2] := by
    intro i u s' keep e
    rw [List.getElem?_map] at e
    obtain ⟨p, e1, rfl⟩ := Option.map_eq_some_iff.mp e
    refine ⟨p.1, rfl, ?_⟩
    have e2 : (ks.map (·.2)).getD i (0, 0) = p.2 := by rw [List.getD_eq_getElem?_getD, List.getElem?_map, e1] <;> rfl
    rw [e2]
    obtain ⟨c, its, ec, ⟨o, ho, hc, n, hd⟩, hi⟩ := tupI_raw I (ns := [p.2.1, p.2.2]) (hk p (List.mem_of_getElem? e1))
    exact ⟨c, its, ec, ⟨o, keep _ _ ho, hc, n, hd⟩, hi⟩
  refine ⟨fun i j u v s' Q E keep eu ev q => ?_, fun i j u v s' Q E keep eu ev q => ?_⟩
  · obtain ⟨a, rfl, ta⟩ := at_ keep eu
    obtain ⟨b, rfl, tb⟩ := at_ keep ev
    exact rich_lt_pair ta tb hu q
  · obtain ⟨a, rfl, ta⟩ := at_ keep eu
    obtain ⟨b, rfl, tb⟩ := at_ keep ev
    exact rich_gt_pair ta tb hu q
theorem getD_map2 {ks : List (Addr × (Int × Int))} {i : Nat} {p : Addr × (Int × Int)} (e : ks[i]? = some p) : (ks.map (·.2)).getD i (0, 0) = p.2 := by rw [List.getD_eq_getElem?_getD, List.getElem?_map, e] <;> rfl
theorem cr_minP (hc : X.calm = true) (hu : X.A.units + 8 < cLine) : CallR X (.builtin "min") (rMinP X.K lexO) := by
  rintro pins s σ H vs us Q I r ⟨a, ks, rfl, hs, hk, hne, q⟩
  obtain ⟨its, rv, hl, _⟩ := I.list hs
  rw [Vals.ref1 r]
  obtain rfl := refs_of_valsP rv
  have pos : 0 < ks.length := List.length_pos_iff.mpr hne
  refine pm_min (I.ok.hd hc) hl.isList (by rw [List.length_map]; exact pos) (cmpK_of I hk (by show X.A.units + 1 < cLine; omega)).1 fun v h' tk ev keep => ?_
  rw [List.getElem?_map] at ev
  obtain ⟨p, e1, rfl⟩ := Option.map_eq_some_iff.mp ev
  rw [List.length_map] at e1
  refine ⟨.ref p.1, H, I.kept keep, rfl, q p (List.mem_of_getElem? e1) fun r hr => ?_⟩
  obtain ⟨j, hj, er⟩ := List.mem_iff_getElem.mp hr
  have z := (argBest_lex (fun i => (ks.map (·.2)).getD i (0, 0)) (ks.length - 1)).2 j (by omega)
  rw [getD_map2 e1, getD_map2 (List.getElem?_eq_some_iff.mpr ⟨hj, er⟩)] at z
  exact z
theorem cr_maxP (hc : X.calm = true) (hu : X.A.units + 8 < cLine) : CallR X (.builtin "max") (rMinP X.K fun p q => lexO q p) := by
  rintro pins s σ H vs us Q I r ⟨a, ks, rfl, hs, hk, hne, q⟩
  obtain ⟨its, rv, hl, _⟩ := I.list hs
  rw [Vals.ref1 r]
  obtain rfl := refs_of_valsP rv
  have pos : 0 < ks.length := List.length_pos_iff.mpr hne
  refine pm_max (I.ok.hd hc) hl.isList (by rw [List.length_map]; exact pos) (cmpK_of I hk (by show X.A.units + 1 < cLine; omega)).2 fun v h' tk ev keep => ?_
  rw [List.getElem?_map] at ev
  obtain ⟨p, e1, rfl⟩ := Option.map_eq_some_iff.mp ev
  rw [List.length_map] at e1
  refine ⟨.ref p.1, H, I.kept keep, rfl, q p (List.mem_of_getElem? e1) fun r hr => ?_⟩
  obtain ⟨j, hj, er⟩ := List.mem_iff_getElem.mp hr
  have z := (argBest_gex (fun i => (ks.map (·.2)).getD i (0, 0)) (ks.length - 1)).2 j (by omega)
  rw [getD_map2 e1, getD_map2 (List.getElem?_eq_some_iff.mpr ⟨hj, er⟩)] at z
  exact z
end
end L2
set_option Elab.async false
set_option linter.all false
set_option maxRecDepth 100000
set_option maxHeartbeats 1000000
set_option exponentiation.threshold 20000
namespace Fen
open PySem PySem.Spec PyProof.Rows L2
/-! points, each with the address of its tuple -/
abbrev Pts := List (Addr × Hull.P)
def refs (ks : Pts) : List V := ks.map fun p => V.ref p.1
def At (K : PySem.W.Frag) (H : Hp) (ks : Pts) : Prop := ∀ p ∈ ks, SqT K H p.1 [.int p.2.1, .int p.2.2]
theorem At.same {K : PySem.W.Frag} {H H' : Hp} {ks : Pts} (h : At K H ks) (s : Same H H') : At K H' ks := fun p hp => s.seqT (h p hp)
theorem At.sub {K : PySem.W.Frag} {H : Hp} {ks ls : Pts} (h : At K H ks) (s : ∀ p ∈ ls, p ∈ ks) : At K H ls := fun p hp => h p (s p hp)
/-- coordinates that can be multiplied -/
def Sm (p : Hull.P) : Prop := p.1.natAbs < 2 ^ 210 ∧ p.2.natAbs < 2 ^ 210
theorem refs_len (ks : Pts) : (refs ks).length = ks.length := List.length_map ..
theorem refs_get {ks : Pts} {i : Nat} {v : V} (h : (refs ks)[i]? = some v) : ∃ p, ks[i]? = some p ∧ v = .ref p.1 := by
  unfold refs at h
  rw [List.getElem?_map] at h
  obtain ⟨p, e, r⟩ := Option.map_eq_some_iff.mp h
  exact ⟨p, e, r.symm⟩
theorem refs_at {ks : Pts} {i : Nat} {p : Addr × Hull.P} (h : ks[i]? = some p) : (refs ks)[i]? = some (.ref p.1) := by
  unfold refs
  rw [List.getElem?_map, h]
  rfl
def popK (r : Hull.P) : Pts → Pts
  | b :: a :: rest => if Hull.turn a.2 b.2 r ≤ 0 then popK r (a :: rest) else b :: a :: rest
  | st => st
def pushK (st : Pts) (r : Addr × Hull.P) : Pts := r :: popK r.2 st
def halfK (ks : Pts) : Pts := ks.foldl pushK []
def hullK (ks : Pts) : Pts := (halfK ks).reverse.dropLast ++ (halfK ks.reverse).reverse.dropLast
theorem popK_one (r : Hull.P) (p : Addr × Hull.P) : popK r [p] = [p] := rfl
theorem popK_go {r : Hull.P} {b a : Addr × Hull.P} {rest : Pts} (h : Hull.turn a.2 b.2 r ≤ 0) : popK r (b :: a :: rest) = popK r (a :: rest) := by
  show (if Hull.turn a.2 b.2 r ≤ 0 then popK r (a :: rest) else b :: a :: rest) = _
  rw [if_pos h]
theorem popK_stay {r : Hull.P} {b a : Addr × Hull.P} {rest : Pts} (h : ¬ Hull.turn a.2 b.2 r ≤ 0) : popK r (b :: a :: rest) = b :: a :: rest := by
  show (if Hull.turn a.2 b.2 r ≤ 0 then popK r (a :: rest) else b :: a :: rest) = _
  rw [if_neg h]
theorem popK_snd (r : Hull.P) : ∀ st : Pts, (popK r st).map (·.2) = Hull.pop r (st.map (·.2))
  | [] => rfl
  | [p] => rfl
  | b :: a :: rest => by
    by_cases h : Hull.turn a.2 b.2 r ≤ 0
    · rw [popK_go h, popK_snd r (a :: rest)]
      show _ = (if Hull.turn a.2 b.2 r ≤ 0 then Hull.pop r ((a :: rest).map (·.2)) else _)
      rw [if_pos h]
    · rw [popK_stay h]
      show _ = (if Hull.turn a.2 b.2 r ≤ 0 then Hull.pop r ((a :: rest).map (·.2)) else _)
      rw [if_neg h]
      rfl
theorem popK_sub (r : Hull.P) : ∀ st : Pts, ∀ p ∈ popK r st, p ∈ st
  | [], p, hp => hp
  | [q], p, hp => hp
  | b :: a :: rest, p, hp => by
    by_cases h : Hull.turn a.2 b.2 r ≤ 0
    · rw [popK_go h] at hp
      exact List.mem_cons_of_mem _ (popK_sub r (a :: rest) p hp)
    · rw [popK_stay h] at hp
      exact hp
theorem popK_len (r : Hull.P) : ∀ st : Pts, (popK r st).length ≤ st.length
  | [] => Nat.le_refl _
  | [q] => Nat.le_refl _
  | b :: a :: rest => by
    by_cases h : Hull.turn a.2 b.2 r ≤ 0
    · rw [popK_go h]
      exact Nat.le_trans (popK_len r (a :: rest)) (by simp)
    · rw [popK_stay h]
      exact Nat.le_refl _
theorem fold_snd : ∀ (ks st : Pts), (ks.foldl pushK st).map (·.2) = (ks.map (·.2)).foldl Hull.push (st.map (·.2))
  | [], st => rfl
  | k :: ks, st => by
    show (ks.foldl pushK (pushK st k)).map (·.2) = (ks.map (·.2)).foldl Hull.push (Hull.push (st.map (·.2)) k.2)
    rw [fold_snd ks]
    show List.foldl Hull.push (k.2 :: (popK k.2 st).map (·.2)) _ = _
    rw [popK_snd]
    rfl
theorem half_snd (ks : Pts) : (halfK ks).map (·.2) = Hull.half (ks.map (·.2)) := fold_snd ks []
theorem fold_sub : ∀ (ks st : Pts), ∀ p ∈ ks.foldl pushK st, p ∈ ks ∨ p ∈ st
  | [], st, p, h => .inr h
  | k :: ks, st, p, h => by
    rcases fold_sub ks (pushK st k) p h with z | z
    · exact .inl (List.mem_cons_of_mem _ z)
    · rcases List.mem_cons.mp z with rfl | z
      · exact .inl List.mem_cons_self
      · exact .inr (popK_sub _ _ _ z)
theorem half_sub (ks : Pts) : ∀ p ∈ halfK ks, p ∈ ks := fun p h => (fold_sub ks [] p h).elim id fun z => nomatch z
theorem fold_len : ∀ (ks st : Pts), (ks.foldl pushK st).length ≤ ks.length + st.length
  | [], st => by simp
  | k :: ks, st => by
    have h := fold_len ks (pushK st k)
    have h2 : (pushK st k).length ≤ st.length + 1 := Nat.succ_le_succ (popK_len k.2 st)
    have h3 : (k :: ks).length = ks.length + 1 := rfl
    show (ks.foldl pushK (pushK st k)).length ≤ _
    omega
theorem half_len (ks : Pts) : (halfK ks).length ≤ ks.length := fold_len ks []
theorem half_snoc (ks : Pts) (p : Addr × Hull.P) : halfK (ks ++ [p]) = pushK (halfK ks) p := by
  unfold halfK
  rw [List.foldl_append]
  rfl
theorem take_succ_at {α : Type} {l : List α} {i : Nat} {x : α} (h : l[i]? = some x) : l.take (i + 1) = l.take i ++ [x] := by rw [List.take_succ, h] <;> rfl
theorem hullK_snd (ks : Pts) : (hullK ks).map (·.2) = Hull.hull (ks.map (·.2)) := by
  unfold hullK Hull.hull
  rw [List.map_append, ← half_snd, ← List.map_reverse (l := ks), ← half_snd]
  simp [List.map_reverse, List.map_dropLast]
theorem hullK_sub (ks : Pts) : ∀ p ∈ hullK ks, p ∈ ks := fun p h => by
  rcases List.mem_append.mp h with z | z
  · exact half_sub ks p (List.mem_reverse.mp (List.dropLast_subset _ z))
  · exact List.mem_reverse.mp (half_sub ks.reverse p (List.mem_reverse.mp (List.dropLast_subset _ z)))
/-- the lists as they stand in the heap -/
theorem refs_last {ks : Pts} {p : Addr × Hull.P} : (refs (p :: ks).reverse)[(refs (p :: ks).reverse).length - 1]? = some (.ref p.1) := by
  have e : refs (p :: ks).reverse = refs ks.reverse ++ [.ref p.1] := by simp [refs]
  rw [e, List.length_append, List.length_singleton, Nat.add_sub_cancel, List.getElem?_append_right (Nat.le_refl _), Nat.sub_self]
  rfl
theorem refs_drop {ks : Pts} {p : Addr × Hull.P} : (refs (p :: ks).reverse).dropLast = refs ks.reverse := by
  have e : refs (p :: ks).reverse = refs ks.reverse ++ [.ref p.1] := by simp [refs]
  rw [e, List.dropLast_concat]
theorem at_1 {ks : Pts} {p : Addr × Hull.P} : atI (refs (p :: ks).reverse) (-1) = some (.ref p.1) := by
  have e : refs (p :: ks).reverse = refs ks.reverse ++ [.ref p.1] := by simp [refs]
  rw [e]
  exact atI_last _ _
theorem atI_2 (xs : List V) (u v : V) : atI (xs ++ [u] ++ [v]) (-2) = some u := by
  have l : (xs ++ [u] ++ [v]).length = xs.length + 2 := by simp
  have e : ixN (xs ++ [u] ++ [v]).length (-2) = some xs.length := by
    rw [l]
    unfold ixN
    have c : ((-2 : Int) + ((xs.length + 2 : Nat) : Int)).toNat = xs.length := by omega
    simp
    omega
  unfold atI
  rw [e]
  show (xs ++ [u] ++ [v])[xs.length]? = some u
  rw [List.append_assoc, List.getElem?_append_right (Nat.le_refl _), Nat.sub_self]
  rfl
theorem at_2 {ks : Pts} {p q : Addr × Hull.P} : atI (refs (p :: q :: ks).reverse) (-2) = some (.ref q.1) := by
  have e : refs (p :: q :: ks).reverse = (refs ks.reverse ++ [.ref q.1]) ++ [.ref p.1] := by simp [refs]
  rw [e]
  exact atI_2 _ _ _
/-- a turn -/
def spTurn (K : PySem.W.Frag) : Sp := fun vs H Q _ => ∃ (a b c : Addr) (p q r : Hull.P), vs = [.ref a, .ref b, .ref c] ∧ SqT K H a [.int p.1, .int p.2] ∧ SqT K H b [.int q.1, .int q.2] ∧ SqT K H c [.int r.1, .int r.2] ∧ Sm p ∧ Sm q ∧ Sm r ∧ Q (.int (Hull.turn p q r)) H
/-- the chain over points -/
def spHalf (K : PySem.W.Frag) : Sp := fun vs H Q _ => ∃ (a : Addr) (ks : Pts), vs = [.ref a] ∧ SqL K H a (refs ks) ∧ At K H ks ∧ (∀ p ∈ ks, Sm p.2) ∧ ks.length ≤ 1000 ∧ ∀ H' w, Same H H' → H w = none → H' w = some (.lst (refs (halfK ks).reverse)) → Q (.ref w) H'
theorem dif_small {x y : Int} (h1 : x.natAbs < 2 ^ 210) (h2 : y.natAbs < 2 ^ 210) : (x - y).natAbs < 2 ^ 212 := by
  have e : (2 : Nat) ^ 212 = 4 * 2 ^ 210 := by decide
  omega
end Fen
set_option Elab.async false
set_option linter.all false
set_option maxRecDepth 100000
set_option maxHeartbeats 1000000
set_option exponentiation.threshold 20000
namespace Fen
open PySem PySem.Spec PyProof.Rows L2
def enc (p : Addr × Hull.P) : Addr × List Int := (p.1, [p.2.1, p.2.2])
def dec (q : Addr × List Int) : Addr × Hull.P := (q.1, prOf q.2)
theorem dec_enc (p : Addr × Hull.P) : dec (enc p) = p := rfl
theorem refs_enc (ks : Pts) : (ks.map enc).map (fun p => V.ref p.1) = refs ks := by
  unfold refs
  rw [List.map_map]
  rfl
theorem asc_pts {ks : Pts} {L M : List (Addr × List Int)} (h1 : ∀ p ∈ L, p ∈ ks.map enc) (h2 : ∀ p ∈ ks.map enc, p.2 ∈ L.map (·.2)) (pm : M.Perm L) (nd : (M.map (·.2)).Nodup) (pw : M.Pairwise (fun q r => SrtO.lexB (prOf r.2) (prOf q.2) = false)) :
    M.map (fun q => V.ref q.1) = refs (M.map dec) ∧ (∀ p ∈ M.map dec, p ∈ ks) ∧ ((M.map dec).map (·.2)).Pairwise Hull.Lt ∧ ∀ x, x ∈ (M.map dec).map (·.2) ↔ x ∈ ks.map (·.2) := by
  have sub : ∀ q ∈ M, ∃ p ∈ ks, q = enc p := fun q hq => by
    obtain ⟨p, hp, e⟩ := List.mem_map.mp (h1 q (pm.mem_iff.mp hq))
    exact ⟨p, hp, e.symm⟩
  refine ⟨?_, fun p hp => ?_, ?_, fun x => ⟨fun hx => ?_, fun hx => ?_⟩⟩
  · unfold refs
    rw [List.map_map]
    rfl
  · obtain ⟨q, hq, rfl⟩ := List.mem_map.mp hp
    obtain ⟨p, hp2, rfl⟩ := sub q hq
    exact hp2
  · rw [List.map_map, List.pairwise_map]
    have both := List.Pairwise.and (List.pairwise_map.mp nd) pw
    refine List.Pairwise.imp_of_mem (fun {q r} hq hr z => ?_) both
    obtain ⟨p, _, rfl⟩ := sub q hq
    obtain ⟨p', _, rfl⟩ := sub r hr
    obtain ⟨ne, le⟩ := z
    have le2 := SrtO.lexB_no.mp le
    rcases Hull.Lt.total p.2 p'.2 with h | h | h
    · exact h
    · exact absurd (show [p.2.1, p.2.2] = [p'.2.1, p'.2.2] by rw [h]) ne
    · exact absurd h le2
  · obtain ⟨p, hp, rfl⟩ := List.mem_map.mp hx
    obtain ⟨q, hq, rfl⟩ := List.mem_map.mp hp
    obtain ⟨p, hp2, rfl⟩ := sub q hq
    exact List.mem_map.mpr ⟨p, hp2, rfl⟩
  · obtain ⟨p, hp, rfl⟩ := List.mem_map.mp hx
    obtain ⟨q, hq, e⟩ := List.mem_map.mp (h2 (enc p) (List.mem_map.mpr ⟨p, hp, rfl⟩))
    refine List.mem_map.mpr ⟨dec q, List.mem_map.mpr ⟨q, pm.mem_iff.mpr hq, rfl⟩, ?_⟩
    show prOf q.2 = p.2
    rw [e]
    rfl
/-- an ascending list is told by its members -/
theorem asc_uniq : ∀ {s t : List Hull.P}, s.Pairwise Hull.Lt → t.Pairwise Hull.Lt → (∀ x, x ∈ s ↔ x ∈ t) → s = t
  | [], [], _, _, _ => rfl
  | [], b :: t, _, _, h => absurd ((h b).mpr List.mem_cons_self) (by simp)
  | a :: s, [], _, _, h => absurd ((h a).mp List.mem_cons_self) (by simp)
  | a :: s, b :: t, hs, ht, h => by
    obtain ⟨s1, s2⟩ := List.pairwise_cons.mp hs
    obtain ⟨t1, t2⟩ := List.pairwise_cons.mp ht
    have e : a = b := by
      rcases List.mem_cons.mp ((h a).mp List.mem_cons_self) with z | z
      · exact z
      · rcases List.mem_cons.mp ((h b).mpr List.mem_cons_self) with y | y
        · exact y.symm
        · exact absurd ((t1 a z).trans (s1 b y)) Hull.Lt.irrefl
    subst e
    have h' : ∀ x, x ∈ s ↔ x ∈ t := fun x => by
      have hx := h x
      rw [List.mem_cons, List.mem_cons] at hx
      constructor
      · intro m
        rcases hx.mp (.inr m) with z | z
        · exact absurd (s1 x m) (fun l => l.ne z.symm)
        · exact z
      · intro m
        rcases hx.mpr (.inr m) with z | z
        · exact absurd (t1 x m) (fun l => l.ne z.symm)
        · exact z
    rw [asc_uniq s2 t2 h']
/-- the corners around an ascending list -/
def hul (s : List Hull.P) : List Hull.P := if s.length = 1 then s else Hull.hull s
theorem hull_two {a b : Hull.P} : Hull.hull [a, b] = [a, b] := by simp [Hull.hull, Hull.half, Hull.push, Hull.pop]
theorem hull_nil : Hull.hull [] = [] := rfl
theorem hul_few {s : List Hull.P} (h : s.length < 3) : hul s = s := by
  rcases s with _ | ⟨a, _ | ⟨b, _ | ⟨c, r⟩⟩⟩
  · rfl
  · rfl
  · exact hull_two
  · simp at h
    omega
/-- the promise of a def that tells the corners around points -/
def spHul (K : PySem.W.Frag) : Sp := fun vs H Q _ => ∃ (a : Addr) (ks : Pts), vs = [.ref a] ∧ SqL K H a (refs ks) ∧ At K H ks ∧ (∀ p ∈ ks, Sm p.2) ∧ ks.length < 64 ∧
  ∀ H' w (hs : Pts) (s : List Hull.P), Same H H' → H w = none → H' w = some (.lst (refs hs)) → (∀ p ∈ hs, p ∈ ks) → s.Pairwise Hull.Lt → (∀ x, x ∈ s ↔ x ∈ ks.map (·.2)) → hs.map (·.2) = hul s → Q (.ref w) H'
end Fen
set_option Elab.async false
set_option linter.all false
set_option maxRecDepth 100000
set_option maxHeartbeats 2000000
/-! repr of data: a fixed text of the data, while no repr is under way -/
namespace L2
open PySem PySem.Spec PyProof.Rows
def rReprD (K : PySem.W.Frag) : List V → Hp → VK → Prop := fun xs H Q => ∃ (a : Addr) (d : PyData), xs = [.ref a] ∧ Dp K H (.ref a) d ∧ d.showable = true ∧ d.hasDict = false ∧ d.shown.length ≤ sizeLine ∧ d.depth ≤ 20 ∧ Q (.str d.shown) H
theorem call_reprD {X : Cx} {k : Nat} (hgd : X.A.guards = some []) (hr : Room k X.A) : CallR X (.builtin "repr") (rReprD X.K) := by
  intro pins s σ H xs us Q I r h
  obtain ⟨a, d, rfl, hd, h1, h2, h3, h4, q⟩ := h
  obtain ⟨u, rfl, ru⟩ := vals1 r
  obtain rfl : u = Value.ref a := ru
  obtain ⟨as, rd⟩ := Dp.reads I d (.ref a) (.ref a) hd rfl
  have hu := hr.un
  exact PySem.repr_of_reads' rd h1 (fun z => by rw [h2] at z; cases z) hgd (by omega) (fun _ _ e => e) (fun h' u tk k => ⟨.str _, H, I.kept k, ⟨_, rfl⟩, q⟩) h3
end L2
set_option Elab.async false
set_option linter.all false
set_option maxRecDepth 100000
set_option maxHeartbeats 1000000
set_option exponentiation.threshold 20000
namespace Fen
open PySem PySem.Spec PyProof.Rows L2
/-! points and fences as data -/
def ptD (p : Hull.P) : PyData := .tuple [.int p.1, .int p.2]
def ptsD (ps : List Hull.P) : PyData := .list (ps.map ptD)
def fenD (b : Int) (ps : List Hull.P) : PyData := .tuple [.int b, ptsD ps, .list []]
theorem dp_pt {K : PySem.W.Frag} {H : Hp} {a : Addr} {p : Hull.P} (h : SqT K H a [.int p.1, .int p.2]) : Dp K H (.ref a) (ptD p) := .tup h (.cons (.int _) (.cons (.int _) .nil))
theorem dp_all {K : PySem.W.Frag} {H : Hp} : ∀ {ks : Pts}, At K H ks → DpAll K H (refs ks) ((ks.map (·.2)).map ptD)
  | [], _ => .nil
  | p :: ks, h => .cons (dp_pt (h p List.mem_cons_self)) (dp_all fun q hq => h q (List.mem_cons_of_mem _ hq))
theorem dp_pts {K : PySem.W.Frag} {H : Hp} {a : Addr} {ks : Pts} (hS : SqL K H a (refs ks)) (hT : At K H ks) : Dp K H (.ref a) (ptsD (ks.map (·.2))) := .lst hS (dp_all hT)
theorem pts_lay : ∀ ps : List Hull.P, PyData.canLayAll0 (ps.map ptD) = true ∧ PyData.depthAll (ps.map ptD) ≤ 1
  | [] => ⟨rfl, by decide⟩
  | p :: ps => by
    have h := pts_lay ps
    refine ⟨by simp [PyData.canLayAll0, PyData.canLay0, ptD, h.1], ?_⟩
    simp only [List.map_cons, PyData.depthAll, ptD, PyData.depth]
    have := h.2
    omega
theorem shaped_pt (p : Hull.P) : SeqAt.shaped (ptD p) = true := by
  unfold SeqAt.shaped
  simp [ptD, PyData.canLay0, PyData.canLayAll0, PyData.depth, PyData.depthAll]
theorem shaped_pts (ps : List Hull.P) : SeqAt.shaped (ptsD ps) = true := by
  unfold SeqAt.shaped ptsD
  simp only [PyData.canLay0, PyData.depth, (pts_lay ps).1, Bool.true_and]
  exact decide_eq_true (by have := (pts_lay ps).2; omega)
theorem shaped_fen (b : Int) (ps : List Hull.P) : SeqAt.shaped (fenD b ps) = true := by
  have h := pts_lay ps
  unfold SeqAt.shaped fenD ptsD
  simp only [PyData.canLay0, PyData.canLayAll0, PyData.depth, PyData.depthAll, h.1, Bool.true_and, Bool.and_true]
  exact decide_eq_true (by have := h.2; omega)
theorem eqv_self {d : PyData} (h : SeqAt.shaped d = true) : PyData.eqv d d = true := SeqAt.eqv_refl _ (SeqAt.canLay_of_shaped h)
theorem eqv_nil (ps : List Hull.P) : PyData.eqv (ptsD ps) (.list []) = ps.isEmpty := by
  cases ps with
  | nil => exact eqv_self (shaped_pts [])
  | cons p ps => simp [ptsD, PyData.eqv, PyData.eqvAll]
theorem any_mem {p : Hull.P} {ps : List Hull.P} (h : p ∈ ps) : ((ps.map ptD).any fun z => PyData.eqv z (ptD p)) = true := List.any_eq_true.mpr ⟨ptD p, List.mem_map.mpr ⟨p, h, rfl⟩, eqv_self (shaped_pt p)⟩
/-- their texts -/
theorem int_show {i : Int} (h : i.natAbs < 10 ^ 31) : (PyData.int i).showable = true ∧ (PyData.int i).shown.length ≤ 40 := by
  have lg : i.natAbs.log2 < 1920 := Nat.lt_of_lt_of_le (PySem.Flt.log2_lt_of (by decide) (Nat.lt_trans h (by decide : 10 ^ 31 < 2 ^ 110))) (by decide)
  refine ⟨by simp [PyData.showable, lg], ?_⟩
  show (Str.ofString (toString i)).length ≤ 40
  rw [PySem.ofString_length]
  exact Nat.le_trans (PySem.int_text_length_le10 (k := 31) (by decide) h) (by decide)
def Sh (p : Hull.P) : Prop := p.1.natAbs < 10 ^ 31 ∧ p.2.natAbs < 10 ^ 31
theorem pt_show {p : Hull.P} (h : Sh p) : (ptD p).showable = true ∧ (ptD p).hasDict = false ∧ (ptD p).shown.length ≤ 87 := by
  obtain ⟨a1, a2⟩ := int_show h.1
  obtain ⟨b1, b2⟩ := int_show h.2
  refine ⟨by
    simp [PyData.showable] at a1 b1
    simp [ptD, PyData.showable, PyData.showableAll, a1, b1], rfl, ?_⟩
  have z := tupleText_len_le (PyData.shownAll [.int p.1, .int p.2])
  simp only [PyData.shownAll, List.map_cons, List.map_nil, List.sum_cons, List.sum_nil, List.length_cons, List.length_nil] at z
  show (tupleText (PyData.shownAll [.int p.1, .int p.2])).length ≤ 87
  simp only [PyData.shownAll]
  omega
theorem pts_show : ∀ {ps : List Hull.P}, (∀ p ∈ ps, Sh p) → PyData.showableAll (ps.map ptD) = true ∧ PyData.hasDictAll (ps.map ptD) = false ∧ ((PyData.shownAll (ps.map ptD)).map (·.length)).sum + 2 * (PyData.shownAll (ps.map ptD)).length ≤ 89 * ps.length
  | [], _ => ⟨rfl, rfl, by simp [PyData.shownAll]⟩
  | p :: ps, h => by
    obtain ⟨a1, a2, a3⟩ := pt_show (h p List.mem_cons_self)
    obtain ⟨b1, b2, b3⟩ := pts_show fun q hq => h q (List.mem_cons_of_mem _ hq)
    refine ⟨by simp [PyData.showableAll, a1, b1], by simp [PyData.hasDictAll, a2, b2], ?_⟩
    simp only [List.map_cons, PyData.shownAll, List.sum_cons, List.length_cons]
    omega
theorem fen_show {b : Int} {ps : List Hull.P} (hb : b.natAbs < 10 ^ 31) (h : ∀ p ∈ ps, Sh p) (l : ps.length ≤ 20) : (fenD b ps).showable = true ∧ (fenD b ps).hasDict = false ∧ (fenD b ps).shown.length ≤ sizeLine ∧ (fenD b ps).depth ≤ 20 := by
  obtain ⟨a1, a2⟩ := int_show hb
  obtain ⟨b1, b2, b3⟩ := pts_show h
  refine ⟨by
    simp [PyData.showable] at a1
    simp [fenD, ptsD, PyData.showable, PyData.showableAll, a1, b1], by simp [fenD, ptsD, PyData.hasDict, PyData.hasDictAll, b2], ?_, ?_⟩
  · have z1 := listText_len_le (PyData.shownAll (ps.map ptD))
    have z2 := tupleText_len_le (PyData.shownAll [.int b, ptsD ps, .list []])
    have z3 : (PyData.shown (.list [])).length ≤ 3 := by decide
    refine sz20 (Nat.le_trans z2 ?_)
    have z4 : (PyData.shown (ptsD ps)).length ≤ 89 * ps.length + 3 := Nat.le_trans z1 (by omega)
    simp only [PyData.shownAll, List.map_cons, List.map_nil, List.sum_cons, List.sum_nil, List.length_cons, List.length_nil]
    omega
  · have := (pts_lay ps).2
    simp only [fenD, ptsD, PyData.depth, PyData.depthAll]
    omega
end Fen
set_option Elab.async false
set_option linter.all false
set_option maxRecDepth 100000
set_option maxHeartbeats 1000000
set_option exponentiation.threshold 20000
namespace K12
open PySem PySem.Spec PyProof.Rows L2 Fen
def topS (i : Nat) : Stmt := PySem.Challenge.pw_growfences_k12_rows_of_stakes.main.body.getD i (.Pass ⟨0, 0, 0, 0⟩)
abbrev sTurnP : Stmt := topS 7
theorem scTurnP : FnScope ["one", "two", "three"] ["one", "two", "three"] (defScope sTurnP) := ⟨rfl, rfl, rfl, by decide +kernel, rfl, by decide +kernel, by decide +kernel⟩
section
variable {P : Program} {w : World} {K : PySem.W.Frag} {mg : Str → Option Value} {base : Heap}
theorem ok_TurnP {f : Addr} {fd : FuncData} {k : Nat} (F : Fun K "turn" "turn" sTurnP f fd) : FnOk P w K mg base CX0 (k + 1) f fd ["one", "two", "three"] (spTurn K) := by
  refine F.ok scTurnP (fun vs H Q E h => ?_) (fun cdv A outer s H vs Q E hr h => ?_)
  · obtain ⟨a, b, c, p, q, r, rfl, _⟩ := h
    rfl
  · obtain ⟨a, b, c, p, q, r, rfl, ha, hb, hc, sp, sq, sr, k⟩ := h
    refine ⟨_, pss_one (ps_ret (pe_op op_sub (pe_op op_mulW (pe_op op_sub (pe_ix ix_tup (pv 1) pe_int (fun _ _ => rfl)) (pe_ix ix_tup (pv 0) pe_int (fun _ _ => rfl))) (pe_op op_sub (pe_ix ix_tup (pv 2) pe_int (fun _ _ => rfl)) (pe_ix ix_tup (pv 0) pe_int (fun _ _ => rfl)))) (pe_op op_mulW (pe_op op_sub (pe_ix ix_tup (pv 1) pe_int (fun _ _ => rfl)) (pe_ix ix_tup (pv 0) pe_int (fun _ _ => rfl))) (pe_op op_sub (pe_ix ix_tup (pv 2) pe_int (fun _ _ => rfl)) (pe_ix ix_tup (pv 0) pe_int (fun _ _ => rfl)))))), ?_⟩
    refine ⟨.ref b, rfl, b, _, 0, .int q.1, rfl, rfl, hb, rfl, .ref a, rfl, a, _, 0, .int p.1, rfl, rfl, ha, rfl, _, _, rfl, rfl, .ref c, rfl, c, _, 1, .int r.2, rfl, rfl, hc, rfl, .ref a, rfl, a, _, 1, .int p.2, rfl, rfl, ha, rfl, _, _, rfl, rfl, _, _, rfl, rfl, wide_mul (dif_small sq.1 sp.1) (dif_small sr.2 sp.2) (by decide) (by decide) (by decide), .ref b, rfl, b, _, 1, .int q.2, rfl, rfl, hb, rfl, .ref a, rfl, a, _, 1, .int p.2, rfl, rfl, ha, rfl, _, _, rfl, rfl, .ref c, rfl, c, _, 0, .int r.1, rfl, rfl, hc, rfl, .ref a, rfl, a, _, 0, .int p.1, rfl, rfl, ha, rfl, _, _, rfl, rfl, _, _, rfl, rfl, wide_mul (dif_small sq.2 sp.2) (dif_small sr.1 sp.1) (by decide) (by decide) (by decide), _, _, rfl, rfl, k⟩
end
end K12
set_option Elab.async false
set_option linter.all false
set_option maxRecDepth 100000
set_option maxHeartbeats 1000000
set_option exponentiation.threshold 20000
namespace K12
open PySem PySem.Spec PyProof.Rows L2 Fen
abbrev sInt : Stmt := topS 15
abbrev sBet : Stmt := topS 16
abbrev sIsP : Stmt := topS 17
abbrev sIsC : Stmt := topS 18
abbrev sIsB : Stmt := topS 19
abbrev sChB : Stmt := topS 23
theorem scInt : FnScope ["value"] ["value"] (defScope sInt) := ⟨rfl, rfl, rfl, by decide +kernel, rfl, by decide +kernel, by decide +kernel⟩
theorem scBet : FnScope ["value", "least", "greatest"] ["value", "least", "greatest"] (defScope sBet) := ⟨rfl, rfl, rfl, by decide +kernel, rfl, by decide +kernel, by decide +kernel⟩
theorem scIsP : FnScope ["value"] ["value"] (defScope sIsP) := ⟨rfl, rfl, rfl, by decide +kernel, rfl, by decide +kernel, by decide +kernel⟩
theorem scIsC : FnScope ["value"] ["value"] (defScope sIsC) := ⟨rfl, rfl, rfl, by decide +kernel, rfl, by decide +kernel, by decide +kernel⟩
theorem scIsB : FnScope ["value"] ["value"] (defScope sIsB) := ⟨rfl, rfl, rfl, by decide +kernel, rfl, by decide +kernel, by decide +kernel⟩
theorem scChB : FnScope ["value"] ["value"] (defScope sChB) := ⟨rfl, rfl, rfl, by decide +kernel, rfl, by decide +kernel, by decide +kernel⟩
/-- within the range of corners -/
def Co (p : Hull.P) : Prop := -(10 : Int) ^ 30 ≤ p.1 ∧ p.1 ≤ 10 ^ 30 ∧ -(10 : Int) ^ 30 ≤ p.2 ∧ p.2 ≤ 10 ^ 30
theorem Co.sm {p : Hull.P} (h : Co p) : Sm p := by
  obtain ⟨a, b, c, d⟩ := h
  have e : (10 : Int) ^ 30 < 2 ^ 210 := by decide
  have e2 : ((2 : Int) ^ 210) = ((2 ^ 210 : Nat) : Int) := by decide
  unfold Sm
  generalize hL : (10 : Int) ^ 30 = L at *
  rw [e2] at e
  generalize (2 : Nat) ^ 210 = M at *
  omega
section
variable {P : Program} {w : World} {K : PySem.W.Frag} {mg : Str → Option Value} {base : Heap}
/-- what the program's text says of names -/
structure Nms (mg : Str → Option Value) : Prop where
  mii : mg "isinstance" = none
  mint : mg "int" = none
  mbool : mg "bool" = none
  mtup : mg "tuple" = none
  mlst : mg "list" = none
  mlen : mg "len" = none
  menum : mg "enumerate" = none
  lim : ∃ t, mg "LIMIT" = some (.int (10 ^ 30) t)
  gb : ∃ t, mg "GREATEST_BOTTOM" = some (.int 30 t)
  mc : ∃ t, mg "MOST_CORNERS" = some (.int 10 t)
def spInt : Sp := fun vs H Q _ => ∃ i : Int, vs = [.int i] ∧ Q (.bl true) H
theorem kit_ii {K : PySem.W.Frag} : PySem.W.kitOne K (.type "int") (.type "int") = some true := kit_ty (by decide +kernel)
theorem kit_ib {K : PySem.W.Frag} : PySem.W.kitOne K (.type "int") (.type "bool") = some false := kit_ty (by decide +kernel)
theorem kit_tt {K : PySem.W.Frag} : PySem.W.kitOne K (.type "tuple") (.type "tuple") = some true := kit_ty (by decide +kernel)
theorem kit_ll {K : PySem.W.Frag} : PySem.W.kitOne K (.type "list") (.type "list") = some true := kit_ty (by decide +kernel)
theorem ok_int {f : Addr} {fd : FuncData} {k : Nat} (F : Fun K "is_integer" "is_integer" sInt f fd) (T : Nms mg) : FnOk P w K mg base CX0 (k + 1) f fd ["value"] spInt := by
  refine F.ok scInt (fun vs H Q E h => ?_) (fun cdv A outer s H vs Q E hr h => ?_)
  · obtain ⟨i, rfl, _⟩ := h
    rfl
  · obtain ⟨i, rfl, q⟩ := h
    refine ⟨_, pss_one (ps_ret (pe_and (pe_callB call_isi (by rfl) T.mii (by decide +kernel) (pa_cons (pv 0) (pa_cons (pe_bltn (v := .ty "int") (by rfl) T.mint (by decide +kernel) rfl) pa_nil)))
      (pe_and1 (pe_not (pe_callB call_isi (by rfl) T.mii (by decide +kernel) (pa_cons (pv 0) (pa_cons (pe_bltn (v := .ty "bool") (by rfl) T.mbool (by decide +kernel) rfl) pa_nil))))))), ?_⟩
    refine ⟨_, rfl, .int i, .ty "int", .type "int", .type "int", true, rfl, .ty _, .base (.int i), kit_ii, true, rfl, ?_⟩
    rw [if_pos rfl]
    exact ⟨_, rfl, .int i, .ty "bool", .type "int", .type "bool", false, rfl, .ty _, .base (.int i), kit_ib, false, rfl, q⟩
def spBet : Sp := fun vs H Q _ => ∃ i lo hi : Int, vs = [.int i, .int lo, .int hi] ∧ lo ≤ i ∧ i ≤ hi ∧ Q (.bl true) H
theorem ok_bet {f fI : Addr} {fd fdI : FuncData} {k : Nat} (F : Fun K "is_between" "is_between" sBet f fd) (FI : Fun K "is_integer" "is_integer" sInt fI fdI) (bI : Binds K fdI ["value"] []) (gI : mg "is_integer" = some (.ref fI)) (T : Nms mg) : FnOk P w K mg base CX0 (k + 1 + 1) f fd ["value", "least", "greatest"] spBet := by
  have OI : FnOk P w K mg base CX0 1 fI fdI ["value"] spInt := ok_int FI T
  refine F.ok scBet (fun vs H Q E h => ?_) (fun cdv A outer s H vs Q E hr h => ?_)
  · obtain ⟨i, lo, hi, rfl, _⟩ := h
    rfl
  · obtain ⟨i, lo, hi, rfl, h1, h2, q⟩ := h
    refine ⟨_, pss_one (ps_ret (pe_and (pe_call OI (hr.mono (by omega)) (by rfl) gI FI.kp bI .nil pass0 (pa_cons (pv 0) pa_nil)) (pe_and1 (pe_chain op_le op_le (pv 1) (pv 0) (pv 2))))), ?_⟩
    refine ⟨_, rfl, i, rfl, true, rfl, ?_⟩
    rw [if_pos rfl]
    refine ⟨_, rfl, _, rfl, _, _, rfl, rfl, _, rfl, ?_⟩
    rw [if_pos (decide_eq_true h1)]
    refine ⟨_, rfl, _, _, rfl, rfl, ?_⟩
    exact (show Q (.bl (decide (i ≤ hi))) H by rw [decide_eq_true h2]; exact q)
def spIsP (K : PySem.W.Frag) : Sp := fun vs H Q _ => ∃ (a : Addr) (i j : Int), vs = [.ref a] ∧ SqT K H a [.int i, .int j] ∧ Q (.bl true) H
theorem ok_isP {f fI : Addr} {fd fdI : FuncData} {k : Nat} (F : Fun K "is_point" "is_point" sIsP f fd) (FI : Fun K "is_integer" "is_integer" sInt fI fdI) (bI : Binds K fdI ["value"] []) (gI : mg "is_integer" = some (.ref fI)) (T : Nms mg) : FnOk P w K mg base CX0 (k + 1 + 1) f fd ["value"] (spIsP K) := by
  have OI : FnOk P w K mg base CX0 1 fI fdI ["value"] spInt := ok_int FI T
  refine F.ok scIsP (fun vs H Q E h => ?_) (fun cdv A outer s H vs Q E hr h => ?_)
  · obtain ⟨a, i, j, rfl, _⟩ := h
    rfl
  · obtain ⟨a, i, j, rfl, hT, q⟩ := h
    have h1 : Room 1 (A.deeper (envOfC "is_point" (defScope sIsP) s.heap.objs.size f cdv)) := hr.mono (by omega)
    refine ⟨_, pss_one (ps_ret (pe_and (pe_callB call_isi (by rfl) T.mii (by decide +kernel) (pa_cons (pv 0) (pa_cons (pe_bltn (v := .ty "tuple") (by rfl) T.mtup (by decide +kernel) rfl) pa_nil)))
      (pe_and (pe_cmpR op_eq (pe_callB call_len_seq (by rfl) T.mlen PySem.boot_len (pa_cons (pv 0) pa_nil)) pe_int (nomark _))
      (pe_and (pe_call OI h1 (by rfl) gI FI.kp bI .nil pass0 (pa_cons (pe_ix ix_tup (pv 0) pe_int (fun _ _ => rfl)) pa_nil))
      (pe_and1 (pe_call OI h1 (by rfl) gI FI.kp bI .nil pass0 (pa_cons (pe_ix ix_tup (pv 0) pe_int (fun _ _ => rfl)) pa_nil))))))), ?_⟩
    refine ⟨_, rfl, .ref a, .ty "tuple", .type "tuple", .type "tuple", true, rfl, .ty _, ty_tup hT, kit_tt, true, rfl, ?_⟩
    rw [if_pos rfl]
    refine ⟨.ref a, rfl, a, _, rfl, .inr hT, rfl, _, rfl, ?_⟩
    refine iteT ?_
    refine ⟨.ref a, rfl, a, _, 0, .int i, rfl, rfl, hT, rfl, i, rfl, true, rfl, ?_⟩
    rw [if_pos rfl]
    exact ⟨.ref a, rfl, a, _, 1, .int j, rfl, rfl, hT, rfl, j, rfl, q⟩
def spIsC (K : PySem.W.Frag) : Sp := fun vs H Q _ => ∃ (a : Addr) (p : Hull.P), vs = [.ref a] ∧ SqT K H a [.int p.1, .int p.2] ∧ Co p ∧ Q (.bl true) H
theorem ok_isC {f fI : Addr} {fd fdI : FuncData} {k : Nat} (F : Fun K "is_corner" "is_corner" sIsC f fd) (OI : FnOk P w K mg base CX0 (k + 1) fI fdI ["value"] (spIsP K)) (kI : PySem.W.keepIn K (.ref fI) = true) (bI : Binds K fdI ["value"] []) (gI : mg "is_point" = some (.ref fI)) (T : Nms mg) : FnOk P w K mg base CX0 (k + 1 + 1) f fd ["value"] (spIsC K) := by
  obtain ⟨t, lim⟩ := T.lim
  refine F.ok scIsC (fun vs H Q E h => ?_) (fun cdv A outer s H vs Q E hr h => ?_)
  · obtain ⟨a, p, rfl, _⟩ := h
    rfl
  · obtain ⟨a, p, rfl, hT, ⟨c1, c2, c3, c4⟩, q⟩ := h
    refine ⟨_, pss_one (ps_ret (pe_and (pe_call OI hr (by rfl) gI kI bI .nil pass0 (pa_cons (pv 0) pa_nil))
      (pe_and (pe_chain op_le op_le (pe_un un_neg (pe_glob (v := .int (10 ^ 30)) (by rfl) lim ⟨_, rfl⟩)) (pe_ix ix_tup (pv 0) pe_int (fun _ _ => rfl)) (pe_glob (v := .int (10 ^ 30)) (by rfl) lim ⟨_, rfl⟩))
      (pe_and1 (pe_chain op_le op_le (pe_un un_neg (pe_glob (v := .int (10 ^ 30)) (by rfl) lim ⟨_, rfl⟩)) (pe_ix ix_tup (pv 0) pe_int (fun _ _ => rfl)) (pe_glob (v := .int (10 ^ 30)) (by rfl) lim ⟨_, rfl⟩)))))), ?_⟩
    refine ⟨_, rfl, a, p.1, p.2, rfl, hT, true, rfl, ?_⟩
    rw [if_pos rfl]
    refine ⟨_, rfl, .ref a, rfl, a, _, 0, .int p.1, rfl, rfl, hT, rfl, _, _, rfl, rfl, _, rfl, ?_⟩
    rw [if_pos (decide_eq_true c1)]
    refine ⟨_, _, rfl, rfl, _, rfl, ?_⟩
    rw [if_pos (decide_eq_true c2)]
    refine ⟨_, rfl, .ref a, rfl, a, _, 1, .int p.2, rfl, rfl, hT, rfl, _, _, rfl, rfl, _, rfl, ?_⟩
    rw [if_pos (decide_eq_true c3)]
    exact ⟨_, _, rfl, rfl, (show Q (.bl (decide (p.2 ≤ 10 ^ 30))) H by rw [decide_eq_true c4]; exact q)⟩
def spIsB : Sp := fun vs H Q _ => ∃ i : Int, vs = [.int i] ∧ 1 ≤ i ∧ i ≤ 30 ∧ Q (.bl true) H
theorem ok_isB {f fI : Addr} {fd fdI : FuncData} {k : Nat} (F : Fun K "is_bottom" "is_bottom" sIsB f fd) (OI : FnOk P w K mg base CX0 (k + 1) fI fdI ["value", "least", "greatest"] spBet) (kI : PySem.W.keepIn K (.ref fI) = true) (bI : Binds K fdI ["value", "least", "greatest"] []) (gI : mg "is_between" = some (.ref fI)) (T : Nms mg) : FnOk P w K mg base CX0 (k + 1 + 1) f fd ["value"] spIsB := by
  obtain ⟨t, gb⟩ := T.gb
  refine F.ok scIsB (fun vs H Q E h => ?_) (fun cdv A outer s H vs Q E hr h => ?_)
  · obtain ⟨i, rfl, _⟩ := h
    rfl
  · obtain ⟨i, rfl, h1, h2, q⟩ := h
    refine ⟨_, pss_one (ps_ret (pe_call OI hr (by rfl) gI kI bI .nil pass0 (pa_cons (pv 0) (pa_cons pe_int (pa_cons (pe_glob (v := .int 30) (by rfl) gb ⟨_, rfl⟩) pa_nil))))), ?_⟩
    exact ⟨_, rfl, i, 1, 30, rfl, h1, h2, q⟩
def spChB : Sp := fun vs H Q _ => ∃ i : Int, vs = [.int i] ∧ 1 ≤ i ∧ i ≤ 30 ∧ Q .non H
theorem ok_chB {f fI : Addr} {fd fdI : FuncData} {k : Nat} (F : Fun K "check_bottom" "check_bottom" sChB f fd) (OI : FnOk P w K mg base CX0 (k + 1) fI fdI ["value"] spIsB) (kI : PySem.W.keepIn K (.ref fI) = true) (bI : Binds K fdI ["value"] []) (gI : mg "is_bottom" = some (.ref fI)) : FnOk P w K mg base CX0 (k + 1 + 1) f fd ["value"] spChB := by
  refine F.ok scChB (fun vs H Q E h => ?_) (fun cdv A outer s H vs Q E hr h => ?_)
  · obtain ⟨i, rfl, _⟩ := h
    rfl
  · obtain ⟨i, rfl, h1, h2, q⟩ := h
    refine ⟨_, pss_one (ps_if (pt_not (pt_val (pe_call OI hr (by rfl) gI kI bI .nil pass0 (pa_cons (pv 0) pa_nil)))) (pss_one ps_no) pss_nil), ?_⟩
    refine ⟨_, rfl, i, rfl, h1, h2, true, rfl, ?_⟩
    exact iteF q
end
end K12
set_option Elab.async false
set_option linter.all false
set_option maxRecDepth 100000
set_option maxHeartbeats 1000000
namespace Fen
open Hull (P turn Lt half push pop hull Poly)
theorem pop_some (r : P) : ∀ st : List P, st ≠ [] → pop r st ≠ []
  | [], h => absurd rfl h
  | [q], _ => by simp [pop]
  | b :: a :: rest, _ => by
    unfold pop
    split
    · exact pop_some r (a :: rest) (by simp)
    · simp
theorem pop_last (r : P) : ∀ st : List P, (pop r st).getLast? = st.getLast?
  | [] => rfl
  | [q] => rfl
  | b :: a :: rest => by
    unfold pop
    split
    · rw [pop_last r (a :: rest)]
      simp
    · rfl
theorem fold_last : ∀ (ps st : List P), st ≠ [] → (ps.foldl push st).getLast? = st.getLast? ∧ ps.foldl push st ≠ []
  | [], st, h => ⟨rfl, h⟩
  | r :: ps, st, h => by
    have e : push st r = r :: pop r st := rfl
    obtain ⟨h1, h2⟩ := fold_last ps (push st r) (by rw [e]; simp)
    refine ⟨?_, h2⟩
    show (ps.foldl push (push st r)).getLast? = _
    rw [h1, e, List.getLast?_cons_of_ne_nil (pop_some r st h), pop_last]
theorem half_last {m : P} {rest : List P} : (half (m :: rest)).getLast? = some m := (fold_last rest [m] (by simp)).1
theorem half_two {m x : P} {rest : List P} : 2 ≤ (half (m :: (rest ++ [x]))).length := by
  have e : half (m :: (rest ++ [x])) = x :: pop x (rest.foldl push [m]) := by
    show (rest ++ [x]).foldl push [m] = _
    rw [List.foldl_append]
    rfl
  have z := pop_some x (rest.foldl push [m]) (fold_last rest [m] (by simp)).2
  rw [e]
  have : 0 < (pop x (rest.foldl push [m])).length := List.length_pos_iff.mpr z
  simp only [List.length_cons]
  omega
theorem mem_dropLast {l : List P} {x : P} (h : l.getLast? = some x) (h2 : 2 ≤ l.length) : x ∈ l.reverse.dropLast := by
  obtain ⟨l', rfl⟩ : ∃ l', l = l' ++ [x] := by
    have := List.getLast?_eq_some_iff.mp h
    exact this
  rw [List.reverse_append]
  have : l'.reverse ≠ [] := by
    intro z
    rw [List.reverse_eq_nil_iff] at z
    rw [z] at h2
    simp at h2
  show x ∈ ([x] ++ l'.reverse).dropLast
  rw [List.dropLast_append_of_ne_nil this]
  exact List.mem_append_left _ (by simp)
/-- the least and the greatest are corners -/
theorem ends_in {m M : P} {mid : List P} : m ∈ hull (m :: (mid ++ [M])) ∧ M ∈ hull (m :: (mid ++ [M])) := by
  unfold hull
  refine ⟨List.mem_append_left _ (mem_dropLast half_last half_two), List.mem_append_right _ ?_⟩
  have e : (m :: (mid ++ [M])).reverse = M :: (mid.reverse ++ [m]) := by simp
  rw [e]
  exact mem_dropLast half_last half_two
structure Around (s c : List P) : Prop where
  le : ∃ m, c[0]? = some m ∧ m ∈ s ∧ ∀ x ∈ s, x ≠ m → Lt m x
  sub : ∀ x ∈ c, x ∈ s
  cs : (c.length = 1 ∧ ∃ m, c = [m] ∧ ∀ x ∈ s, x = m) ∨ (∃ a b, c = [a, b] ∧ b ∈ s ∧ (∀ x ∈ s, x ≠ b → Lt x b) ∧ ∀ x ∈ s, turn a b x = 0) ∨
    (3 ≤ c.length ∧ ∀ i a b d, i < c.length → c[i]? = some a → c[(i + 1) % c.length]? = some b → c[(i + 2) % c.length]? = some d → 0 < turn a b d ∧ ∀ x ∈ s, 0 ≤ turn a b x)
theorem around {s : List P} (hs : s.Pairwise Lt) (h1 : 1 ≤ s.length) : Around s (hul s) := by
  by_cases h : s.length = 1
  · obtain ⟨m, rfl⟩ : ∃ m, s = [m] := List.length_eq_one_iff.mp h
    have e : hul [m] = [m] := rfl
    rw [e]
    refine ⟨⟨m, rfl, by simp, fun x hx n => absurd (List.mem_singleton.mp hx) n⟩, fun x hx => hx, .inl ⟨rfl, m, rfl, fun x hx => List.mem_singleton.mp hx⟩⟩
  · have h2 : 2 ≤ s.length := by omega
    have e : hul s = hull s := if_neg h
    rw [e]
    have Y := Hull.poly hs h2
    obtain ⟨m, mid, M, rfl⟩ : ∃ m mid M, s = m :: (mid ++ [M]) := by
      cases s with
      | nil => simp at h2
      | cons m rest =>
        rcases Hull.last_cases rest with rfl | ⟨l', x, rfl⟩
        · simp at h2
        · exact ⟨m, l', x, rfl⟩
    obtain ⟨pm, pr⟩ := List.pairwise_cons.mp hs
    obtain ⟨_, _, pM⟩ := List.pairwise_append.mp pr
    have least : ∀ x ∈ m :: (mid ++ [M]), x ≠ m → Lt m x := fun x hx n => by
      rcases List.mem_cons.mp hx with z | z
      · exact absurd z n
      · exact pm x z
    have most : ∀ x ∈ m :: (mid ++ [M]), x ≠ M → Lt x M := fun x hx n => by
      rcases List.mem_cons.mp hx with z | z
      · rw [z]
        exact pm M (by simp)
      · rcases List.mem_append.mp z with y | y
        · exact pM x y M (by simp)
        · exact absurd (List.mem_singleton.mp y) n
    obtain ⟨m', e0, e1, _⟩ := Y.first
    obtain rfl : m = m' := Option.some.inj e1
    obtain ⟨inm, inM⟩ := ends_in (m := m) (mid := mid) (M := M)
    have mM : Lt m M := pm M (by simp)
    have two := Y.two
    refine ⟨⟨m, e0, by simp, least⟩, Y.mem, .inr ?_⟩
    generalize hull (m :: (mid ++ [M])) = c at *
    by_cases h3 : c.length = 2
    · left
      obtain ⟨a, b, rfl⟩ : ∃ a b, c = [a, b] := by
        rcases c with _ | ⟨a, _ | ⟨b, _ | ⟨d, r⟩⟩⟩
        · simp at h3
        · simp at h3
        · exact ⟨a, b, rfl⟩
        · simp at h3
      obtain rfl : a = m := Option.some.inj e0
      have eb : b = M := by
        rcases List.mem_cons.mp inM with z | z
        · exact absurd (z ▸ mM) Lt.irrefl
        · exact (List.mem_singleton.mp z).symm
      subst eb
      refine ⟨a, b, rfl, by simp, most, fun x hx => ?_⟩
      have w0 := Y.weak 0 (by simp) x hx
      have w1 := Y.weak 1 (by simp) x hx
      have w0' : 0 ≤ turn a b x := w0
      have w1' : 0 ≤ turn b a x := by simpa using w1
      rw [Hull.turn_swap] at w1'
      omega
    · right
      refine ⟨by omega, fun i a b d hi ea eb ed => ⟨?_, fun x hx => ?_⟩⟩
      · have ja : c[i] = a := Option.some.inj ((List.getElem?_eq_getElem hi).symm.trans ea)
        have lb : (i + 1) % c.length < c.length := Nat.mod_lt _ (by omega)
        have ld : (i + 2) % c.length < c.length := Nat.mod_lt _ (by omega)
        have jb : c[(i + 1) % c.length] = b := Option.some.inj ((List.getElem?_eq_getElem lb).symm.trans eb)
        have jd : c[(i + 2) % c.length] = d := Option.some.inj ((List.getElem?_eq_getElem ld).symm.trans ed)
        have n1 : (i + 2) % c.length ≠ i := fun z => by
          by_cases q : i + 2 < c.length
          · rw [Nat.mod_eq_of_lt q] at z
            omega
          · have : (i + 2) % c.length = i + 2 - c.length := by rw [Nat.mod_eq_sub_mod (by omega), Nat.mod_eq_of_lt (by omega)]
            omega
        have n2 : (i + 2) % c.length ≠ (i + 1) % c.length := fun z => by
          by_cases q : i + 2 < c.length
          · rw [Nat.mod_eq_of_lt q, Nat.mod_eq_of_lt (by omega)] at z
            omega
          · have e2 : (i + 2) % c.length = i + 2 - c.length := by rw [Nat.mod_eq_sub_mod (by omega), Nat.mod_eq_of_lt (by omega)]
            by_cases q1 : i + 1 < c.length
            · rw [Nat.mod_eq_of_lt q1] at z
              omega
            · have e1 : (i + 1) % c.length = i + 1 - c.length := by rw [Nat.mod_eq_sub_mod (by omega), Nat.mod_eq_of_lt (by omega)]
              omega
        have z := Y.strict i ((i + 2) % c.length) hi ld n1 n2
        rw [ja, jb, jd] at z
        exact z
      · have ja : c[i] = a := Option.some.inj ((List.getElem?_eq_getElem hi).symm.trans ea)
        have lb : (i + 1) % c.length < c.length := Nat.mod_lt _ (by omega)
        have jb : c[(i + 1) % c.length] = b := Option.some.inj ((List.getElem?_eq_getElem lb).symm.trans eb)
        have z := Y.weak i hi x hx
        rw [ja, jb] at z
        exact z
end Fen
set_option Elab.async false
set_option linter.all false
set_option maxRecDepth 100000
/-! gcd of three -/
namespace L2
open PySem PySem.Spec PyProof.Rows
theorem gcd3_args (x y z : Value) : argsOk "math.gcd" ⟨[x, y, z], []⟩ := by
  unfold argsOk
  kernel_rfl
theorem gcd3_run (a : Int) (t : Tok) (b : Int) (u : Tok) (c : Int) (v : Tok) : Gives (Builtin.«math.gcd» ⟨[.int a t, .int b u, .int c v], []⟩) (.int (((((Nat.gcd 0 a.natAbs).gcd b.natAbs).gcd c.natAbs : Nat) : Int))) :=
  .of_wp fun M A E s Q k => by
    obtain ⟨h0, g0, d0, n0, o0⟩ := s
    wp_walk
    exact ⟨_, rfl, k⟩
/-- the greatest divisor that three have in common -/
def g3 (a b c : Int) : Int := (((a.natAbs.gcd b.natAbs).gcd c.natAbs : Nat) : Int)
def rGcd3 : List V → Hp → VK → Prop := fun vs H Q => ∃ a b c : Int, vs = [.int a, .int b, .int c] ∧ Q (.int (g3 a b c)) H
theorem cr_gcd3 {X : Cx} : CallR X (.builtin "math.gcd") rGcd3 := by
  rintro pins s σ H vs us Q I r ⟨a, b, c, rfl, q⟩
  obtain ⟨w1, rest, rfl, f1, r2⟩ : ∃ u rest, us = u :: rest ∧ RelV (.int a) u ∧ Vals [.int b, .int c] rest := by
    cases r with
    | cons r rr => exact ⟨_, _, rfl, r, rr⟩
  obtain ⟨w2, w3, rfl, f2, f3⟩ := vals2 r2
  obtain ⟨t1, rfl⟩ := f1
  obtain ⟨t2, rfl⟩ := f2
  obtain ⟨t3, rfl⟩ := f3
  have g := gcd3_run a t1 b t2 c t3
  rw [Nat.gcd_zero_left] at g
  exact call_function_meets PySem.W.MGF.kind_gcd PySem.W.MGF.plain_gcd PySem.W.MGF.entry_gcd (gcd3_args _ _ _) g.meets ⟨.int _, H, I.tok _, ⟨_, rfl⟩, q⟩
end L2
set_option Elab.async false
set_option linter.all false
set_option maxRecDepth 100000
set_option maxHeartbeats 1000000
namespace Fen
open Hull (P turn Lt)
/-! what fences are -/
structure Out (cs : List P) : Prop where
  first : ∃ m, cs[0]? = some m ∧ ∀ x ∈ cs, x ≠ m → Lt m x
  left : ∀ i j a b d, i < cs.length → j < cs.length → cs[i]? = some a → cs[(i + 1) % cs.length]? = some b → cs[j]? = some d → j ≠ i → j ≠ (i + 1) % cs.length → 0 < turn a b d
def Shape (cs : List P) : Prop := cs.length = 1 ∨ (∃ a b, cs = [a, b] ∧ Lt a b) ∨ (3 ≤ cs.length ∧ Out cs)
def tot (cs : List P) : Nat := if cs.length = 1 then 0 else cs.length
theorem shape_hul {s : List P} (hs : s.Pairwise Lt) (h1 : 1 ≤ s.length) : Shape (hul s) ∧ 1 ≤ (hul s).length ∧ ∀ x ∈ hul s, x ∈ s := by
  by_cases h : s.length = 1
  · have e : hul s = s := if_pos h
    rw [e]
    exact ⟨.inl h, h1, fun x hx => hx⟩
  · have e : hul s = Hull.hull s := if_neg h
    have Y := Hull.poly hs (by omega)
    rw [e]
    have two := Y.two
    refine ⟨.inr ?_, by omega, Y.mem⟩
    obtain ⟨m, e0, _, least⟩ := Y.first
    by_cases h2 : (Hull.hull s).length = 2
    · left
      obtain ⟨a, b, e2⟩ : ∃ a b, Hull.hull s = [a, b] := by
        generalize Hull.hull s = c at h2
        rcases c with _ | ⟨a, _ | ⟨b, _ | ⟨d, r⟩⟩⟩
        · simp at h2
        · simp at h2
        · exact ⟨a, b, rfl⟩
        · simp at h2
      refine ⟨a, b, e2, ?_⟩
      have nd := Y.nodup
      rw [e2] at e0 least nd
      obtain rfl : a = m := Option.some.inj e0
      exact least b (by simp) (fun z => by
        rw [z] at nd
        simp at nd)
    · right
      refine ⟨by omega, ⟨m, e0, least⟩, fun i j a b d hi hj ea eb ed n1 n2 => ?_⟩
      have ja : (Hull.hull s)[i] = a := Option.some.inj ((List.getElem?_eq_getElem hi).symm.trans ea)
      have lb : (i + 1) % (Hull.hull s).length < (Hull.hull s).length := Nat.mod_lt _ (by omega)
      have jb : (Hull.hull s)[(i + 1) % (Hull.hull s).length] = b := Option.some.inj ((List.getElem?_eq_getElem lb).symm.trans eb)
      have jd : (Hull.hull s)[j] = d := Option.some.inj ((List.getElem?_eq_getElem hj).symm.trans ed)
      have z := Y.strict i j hi hj n1 n2
      rw [ja, jb, jd] at z
      exact z
/-- how many corners are strictly left of a side -/
theorem range_two {n i i' : Nat} (h1 : i < n) (h2 : i' < n) (h : i ≠ i') : ((List.range n).filter fun j => decide (j ≠ i) && decide (j ≠ i')).length = n - 2 := by
  have nd : (List.range n).Nodup := List.nodup_range
  have e1 : (List.range n).erase i = (List.range n).filter (fun j => j != i) := nd.erase_eq_filter i
  have e2 : ((List.range n).erase i).erase i' = ((List.range n).erase i).filter (fun j => j != i') := (nd.erase i).erase_eq_filter i'
  have m2 : i' ∈ (List.range n).erase i := (List.mem_erase_of_ne (Ne.symm h)).mpr (List.mem_range.mpr h2)
  have l1 := List.length_erase_of_mem (List.mem_range.mpr h1)
  have l2 := List.length_erase_of_mem m2
  have l3 : (((List.range n).erase i).erase i').length = n - 1 - 1 := by rw [l2, l1, List.length_range]
  rw [e2, e1, List.filter_filter] at l3
  have e3 : (fun j => decide (j ≠ i) && decide (j ≠ i')) = fun j => (j != i') && (j != i) := by
    funext j
    by_cases a : j = i <;> by_cases b : j = i' <;> simp [a, b]
  rw [e3, l3]
  omega
theorem left_count {cs : List P} (h3 : 3 ≤ cs.length) (O : Out cs) {i : Nat} {a b : P} (hi : i < cs.length) (ea : cs[i]? = some a) (eb : cs[(i + 1) % cs.length]? = some b) : (cs.filter fun x => decide (0 < turn a b x)).length = cs.length - 2 := by
  have lb : (i + 1) % cs.length < cs.length := Nat.mod_lt _ (by omega)
  have ne : i ≠ (i + 1) % cs.length := fun z => by
    by_cases q : i + 1 < cs.length
    · rw [Nat.mod_eq_of_lt q] at z
      omega
    · have : (i + 1) % cs.length = i + 1 - cs.length := by rw [Nat.mod_eq_sub_mod (by omega), Nat.mod_eq_of_lt (by omega)]
      omega
  have em : cs = (List.range cs.length).map fun j => cs.getD j (0, 0) := by
    refine List.ext_getElem? fun j => ?_
    rw [List.getElem?_map]
    by_cases h : j < cs.length
    · rw [List.getElem?_range h, List.getElem?_eq_getElem h]
      simp [List.getD_eq_getElem?_getD, List.getElem?_eq_getElem h]
    · rw [List.getElem?_eq_none (by omega), List.getElem?_eq_none (by rw [List.length_range]; omega)]
      rfl
  have step : (cs.filter fun x => decide (0 < turn a b x)).length = (((List.range cs.length).map fun j => cs.getD j (0, 0)).filter fun x => decide (0 < turn a b x)).length := by rw [← em]
  rw [step, List.filter_map, List.length_map, ← range_two hi lb ne]
  congr 1
  refine List.filter_congr fun j hj => ?_
  have lj : j < cs.length := List.mem_range.mp hj
  obtain ⟨d, ed⟩ : ∃ d, cs[j]? = some d := ⟨_, List.getElem?_eq_getElem lj⟩
  have gd : cs.getD j (0, 0) = d := by rw [List.getD_eq_getElem?_getD, ed]; rfl
  show decide (0 < turn a b (cs.getD j (0, 0))) = _
  rw [gd]
  by_cases q1 : j = i
  · subst q1
    have : d = a := Option.some.inj (ed.symm.trans ea)
    subst this
    rw [Hull.turn_aba]
    simp
  · by_cases q2 : j = (i + 1) % cs.length
    · subst q2
      have : d = b := Option.some.inj (ed.symm.trans eb)
      subst this
      rw [Hull.turn_abb]
      simp
    · rw [decide_eq_true (O.left i j a b d hi lj ea eb ed q1 q2)]
      simp [q1, q2]
end Fen
set_option Elab.async false
set_option linter.all false
set_option maxRecDepth 100000
set_option maxHeartbeats 1000000
set_option exponentiation.threshold 20000
namespace Fen
open PySem PySem.Spec PyProof.Rows L2
def Cor (p : Hull.P) : Prop := -(10 : Int) ^ 30 ≤ p.1 ∧ p.1 ≤ 10 ^ 30 ∧ -(10 : Int) ^ 30 ≤ p.2 ∧ p.2 ≤ 10 ^ 30
theorem Cor.sm {p : Hull.P} (h : Cor p) : Sm p := by
  obtain ⟨a, b, c, d⟩ := h
  have e : (10 : Int) ^ 30 < 2 ^ 210 := by decide
  have e2 : ((2 : Int) ^ 210) = ((2 ^ 210 : Nat) : Int) := by decide
  unfold Sm
  generalize hL : (10 : Int) ^ 30 = L at *
  rw [e2] at e
  generalize (2 : Nat) ^ 210 = M at *
  omega
theorem Cor.sh {p : Hull.P} (h : Cor p) : Sh p := by
  obtain ⟨a, b, c, d⟩ := h
  have e : (10 : Int) ^ 30 = 1000000000000000000000000000000 := by decide
  have e2 : (10 : Nat) ^ 31 = 10000000000000000000000000000000 := by decide
  rw [e] at a b c d
  unfold Sh
  rw [e2]
  omega
/-- a fence: bottom, corners, open sides -/
structure IsF (b : Int) (cs : List Hull.P) (os : List Int) : Prop where
  b1 : 1 ≤ b
  b2 : b ≤ 30
  l1 : 1 ≤ cs.length
  l2 : cs.length ≤ 10
  co : ∀ p ∈ cs, Cor p
  sh : Shape cs
  up : os.Pairwise (· < ·)
  inn : ∀ o ∈ os, 0 ≤ o ∧ o < tot cs
theorem up_len : ∀ (os : List Int) (lo n : Int), os.Pairwise (· < ·) → (∀ o ∈ os, lo ≤ o ∧ o < n) → (os.length : Int) ≤ n - lo ∨ os = []
  | [], _, _, _, _ => .inr rfl
  | o :: os, lo, n, h, k => by
    left
    obtain ⟨h1, h2⟩ := List.pairwise_cons.mp h
    have ko := k o List.mem_cons_self
    rcases up_len os (o + 1) n h2 (fun x hx => ⟨h1 x hx, (k x (List.mem_cons_of_mem _ hx)).2⟩) with z | z
    · simp only [List.length_cons]
      omega
    · rw [z]
      simp
      omega
theorem IsF.few {b : Int} {cs : List Hull.P} {os : List Int} (f : IsF b cs os) : os.length ≤ 10 := by
  have t : tot cs ≤ 10 := by
    unfold tot
    have := f.l2
    split <;> omega
  rcases up_len os 0 (tot cs) f.up f.inn with z | z
  · omega
  · rw [z]
    simp
/-- the fence as it stands -/
structure FAt (K : PySem.W.Frag) (H : Hp) (t c o : Addr) (b : Int) (ks : Pts) (os : List Int) : Prop where
  tup : SqT K H t [.int b, .ref c, .ref o]
  cor : SqL K H c (refs ks)
  pts : At K H ks
  sid : SqL K H o (os.map V.int)
theorem FAt.same {K : PySem.W.Frag} {H H' : Hp} {t c o : Addr} {b : Int} {ks : Pts} {os : List Int} (f : FAt K H t c o b ks os) (s : Same H H') : FAt K H' t c o b ks os := ⟨s.seqT f.tup, s.seq f.cor, f.pts.same s, s.seq f.sid⟩
def fD (b : Int) (cs : List Hull.P) (os : List Int) : PyData := .tuple [.int b, ptsD cs, .list (os.map PyData.int)]
theorem dp_intl {K : PySem.W.Frag} {H : Hp} : ∀ ns : List Int, DpAll K H (ns.map V.int) (ns.map PyData.int)
  | [] => .nil
  | n :: r => .cons (.int n) (dp_intl r)
theorem FAt.dp {K : PySem.W.Frag} {H : Hp} {t c o : Addr} {b : Int} {ks : Pts} {os : List Int} (f : FAt K H t c o b ks os) : Dp K H (.ref t) (fD b (ks.map (·.2)) os) :=
  .tup f.tup (.cons (.int b) (.cons (dp_pts f.cor f.pts) (.cons (.lst f.sid (dp_intl os)) .nil)))
theorem ints_lay : ∀ l : List Int, PyData.canLayAll0 (l.map PyData.int) = true ∧ PyData.depthAll (l.map PyData.int) ≤ 1
  | [] => ⟨rfl, by decide⟩
  | b :: r => ⟨by simp [PyData.canLayAll0, PyData.canLay0, (ints_lay r).1], by have := (ints_lay r).2; simp only [List.map_cons, PyData.depthAll, PyData.depth]; omega⟩
theorem fD_lay (b : Int) (cs : List Hull.P) (os : List Int) : (fD b cs os).canLay0 = true ∧ (fD b cs os).depth ≤ 4 := by
  have h := pts_lay cs
  have g := ints_lay os
  refine ⟨?_, ?_⟩
  · simp only [fD, ptsD, PyData.canLay0, PyData.canLayAll0, h.1, g.1, Bool.true_and, Bool.and_true]
  · simp only [fD, ptsD, PyData.depth, PyData.depthAll]
    have := h.2
    have := g.2
    omega
theorem shaped_f (b : Int) (cs : List Hull.P) (os : List Int) : SeqAt.shaped (fD b cs os) = true := by
  unfold SeqAt.shaped
  rw [(fD_lay b cs os).1, Bool.true_and]
  exact decide_eq_true (by have := (fD_lay b cs os).2; omega)
theorem ints_show : ∀ {os : List Int}, (∀ o ∈ os, o.natAbs < 10 ^ 31) → PyData.showableAll (os.map PyData.int) = true ∧ PyData.hasDictAll (os.map PyData.int) = false ∧ ((PyData.shownAll (os.map PyData.int)).map (·.length)).sum + 2 * (PyData.shownAll (os.map PyData.int)).length ≤ 42 * os.length
  | [], _ => ⟨rfl, rfl, by simp [PyData.shownAll]⟩
  | p :: ps, h => by
    obtain ⟨a1, a2⟩ := int_show (h p List.mem_cons_self)
    obtain ⟨b1, b2, b3⟩ := ints_show fun q hq => h q (List.mem_cons_of_mem _ hq)
    refine ⟨by simp only [List.map_cons, PyData.showableAll, a1, b1, Bool.true_and], by simp [PyData.hasDictAll, PyData.hasDict, b2], ?_⟩
    simp only [List.map_cons, PyData.shownAll, List.sum_cons, List.length_cons]
    omega
/-- what repr asks of a fence -/
structure Rp (d : PyData) (n : Nat) : Prop where
  sh : d.showable = true
  nd : d.hasDict = false
  len : d.shown.length ≤ n
  dep : d.depth ≤ 5
theorem IsF.rp {b : Int} {cs : List Hull.P} {os : List Int} (f : IsF b cs os) : Rp (fD b cs os) 1500 := by
  have e31 : (10 : Nat) ^ 31 = 10000000000000000000000000000000 := by decide
  obtain ⟨a1, a2⟩ := int_show (i := b) (by have := f.b1; have := f.b2; omega)
  obtain ⟨b1, b2, b3⟩ := pts_show (ps := cs) fun p hp => (f.co p hp).sh
  have t10 : tot cs ≤ 10 := by
    unfold tot
    have := f.l2
    split <;> omega
  obtain ⟨c1, c2, c3⟩ := ints_show (os := os) fun o ho => by have := f.inn o ho; omega
  have few := f.few
  have l2 := f.l2
  refine ⟨by simp only [fD, ptsD, PyData.showable, PyData.showableAll, b1, c1, Bool.true_and, Bool.and_true]; simpa [PyData.showable] using a1, by simp [fD, ptsD, PyData.hasDict, PyData.hasDictAll, b2, c2], ?_, ?_⟩
  · have z1 := listText_len_le (PyData.shownAll (cs.map ptD))
    have z2 := tupleText_len_le (PyData.shownAll [.int b, ptsD cs, .list (os.map PyData.int)])
    have z3 := listText_len_le (PyData.shownAll (os.map PyData.int))
    have z4 : (PyData.shown (ptsD cs)).length ≤ 89 * cs.length + 3 := Nat.le_trans z1 (by omega)
    have z5 : (PyData.shown (.list (os.map PyData.int))).length ≤ 42 * os.length + 3 := Nat.le_trans z3 (by omega)
    refine Nat.le_trans z2 ?_
    simp only [PyData.shownAll, List.map_cons, List.map_nil, List.sum_cons, List.sum_nil, List.length_cons, List.length_nil]
    omega
  · exact Nat.le_trans (fD_lay b cs os).2 (by decide)
end Fen
set_option Elab.async false
set_option linter.all false
set_option maxRecDepth 100000
set_option maxHeartbeats 1000000
set_option exponentiation.threshold 20000
namespace K12
open PySem PySem.Spec PyProof.Rows L2 Fen
abbrev sNx : Stmt := topS 8
abbrev sLs : Stmt := topS 9
abbrev sOut : Stmt := topS 10
abbrev sCs : Stmt := topS 20
abbrev sTot : Stmt := topS 21
abbrev sSd : Stmt := topS 22
abbrev sChk : Stmt := topS 24
theorem scNx : FnScope ["corners", "side"] ["corners", "side"] (defScope sNx) := ⟨rfl, rfl, rfl, by decide +kernel, rfl, by decide +kernel, by decide +kernel⟩
abbrev nLs : List Str := ["corners", "side", "tail", "head", "left", "corner"]
theorem scLs : FnScope nLs ["corners", "side"] (defScope sLs) := ⟨rfl, rfl, rfl, by decide +kernel, rfl, by decide +kernel, by decide +kernel⟩
abbrev nOut : List Str := ["corners", "side"]
theorem scOut : FnScope nOut ["corners"] (defScope sOut) := ⟨rfl, rfl, rfl, by decide +kernel, rfl, by decide +kernel, by decide +kernel⟩
abbrev nCs : List Str := ["value", "corner"]
theorem scCs : FnScope nCs ["value"] (defScope sCs) := ⟨rfl, rfl, rfl, by decide +kernel, rfl, by decide +kernel, by decide +kernel⟩
theorem scTot : FnScope ["corners"] ["corners"] (defScope sTot) := ⟨rfl, rfl, rfl, by decide +kernel, rfl, by decide +kernel, by decide +kernel⟩
theorem scSd : FnScope ["value", "total", "least", "side"] ["value", "total"] (defScope sSd) := ⟨rfl, rfl, rfl, by decide +kernel, rfl, by decide +kernel, by decide +kernel⟩
theorem scChk : FnScope ["value", "bottom", "corners", "sides"] ["value"] (defScope sChk) := ⟨rfl, rfl, rfl, by decide +kernel, rfl, by decide +kernel, by decide +kernel⟩
section
variable {P : Program} {w : World} {K : PySem.W.Frag} {mg : Str → Option Value} {base : Heap}
structure Nm2 (mg : Str → Option Value) : Prop where
  mmin : mg "min" = none
  mmax : mg "max" = none
  mzip : mg "zip" = none
  mall : mg "all" = none
  mrange : mg "range" = none
  mabs : mg "abs" = none
  msum : mg "sum" = none
  mrepr : mg "repr" = none
  msorted : mg "sorted" = none
def spNx (K : PySem.W.Frag) : Sp := fun vs H Q _ => ∃ (c : Addr) (ks : Pts) (i : Nat) (p : Addr × Hull.P), vs = [.ref c, .int i] ∧ SqL K H c (refs ks) ∧ ks[(i + 1) % ks.length]? = some p ∧ Q (.ref p.1) H
theorem ok_nx {f : Addr} {fd : FuncData} {k : Nat} (F : Fun K "next_corner" "next_corner" sNx f fd) (T : Nms mg) : FnOk P w K mg base CX0 (k + 1) f fd ["corners", "side"] (spNx K) := by
  refine F.ok scNx (fun vs H Q E h => ?_) (fun cdv A outer s H vs Q E hr h => ?_)
  · obtain ⟨c, ks, i, p, rfl, _⟩ := h
    rfl
  · obtain ⟨c, ks, i, p, rfl, hS, hp, q⟩ := h
    have l1 : 0 < ks.length := by
      have := (List.getElem?_eq_some_iff.mp hp).1
      omega
    refine ⟨_, pss_one (ps_ret (pe_ix ix_list (pv 0) (pe_op op_mod (pe_op op_add (pv 1) pe_int) (pe_callB call_len_seq (by rfl) T.mlen PySem.boot_len (pa_cons (pv 0) pa_nil))) (fun _ _ => rfl))), ?_⟩
    refine ⟨.ref c, rfl, _, rfl, _, _, rfl, rfl, .ref c, rfl, c, _, rfl, .inl hS, _, _, rfl, rfl, ?_, c, _, (((i + 1) % ks.length : Nat) : Int), .ref p.1, rfl, ?_, hS, atI_nat (refs_at hp), q⟩
    · rw [refs_len]
      omega
    · rw [refs_len]
      show V.int _ = V.int _
      congr 1
def spLs (K : PySem.W.Frag) : Sp := fun vs H Q _ => ∃ (c : Addr) (ks : Pts) (i : Nat), vs = [.ref c, .int i] ∧ SqL K H c (refs ks) ∧ At K H ks ∧ (∀ p ∈ ks, Sm p.2) ∧ 3 ≤ ks.length ∧ ks.length ≤ 10 ∧ Out (ks.map (·.2)) ∧ i < ks.length ∧ ∀ H', Same H H' → Q (.bl true) H'
theorem ok_ls {f fT fN : Addr} {fd fdT fdN : FuncData} {k : Nat} (F : Fun K "is_left_of_side" "is_left_of_side" sLs f fd) (FT : Fun K "turn" "turn" sTurnP fT fdT) (bT : Binds K fdT ["one", "two", "three"] []) (gT : mg "turn" = some (.ref fT))
    (FN : Fun K "next_corner" "next_corner" sNx fN fdN) (bN : Binds K fdN ["corners", "side"] []) (gN : mg "next_corner" = some (.ref fN)) (T : Nms mg) : FnOk P w K mg base CX0 (k + 1 + 1) f fd ["corners", "side"] (spLs K) := by
  have OT : FnOk P w K mg base CX0 1 fT fdT ["one", "two", "three"] (spTurn K) := ok_TurnP FT
  have ON : FnOk P w K mg base CX0 1 fN fdN ["corners", "side"] (spNx K) := ok_nx FN T
  refine F.ok scLs (fun vs H Q E h => ?_) (fun cdv A outer s H vs Q E hr h => ?_)
  · obtain ⟨c, ks, i, rfl, _⟩ := h
    rfl
  · obtain ⟨c, ks, i, rfl, hS, hT, small, l3, l10, O, hi, q⟩ := h
    have h1 : Room 1 (A.deeper (envOfC "is_left_of_side" (defScope sLs) s.heap.objs.size f cdv)) := hr.mono (by omega)
    refine ⟨_, pss_cons (ps_asg (pe_tup (pa_cons (pe_ix ix_list (pv 0) (pv 1) (fun _ _ => rfl)) (pa_cons (pe_call ON h1 (by rfl) gN FN.kp bN .nil pass0 (pa_cons (pv 0) (pa_cons (pv 1) pa_nil))) pa_nil))) (pg_tup rfl (pgs_cons (pg_name (i := 2) scLs.nd rfl (.inr rfl)) (pgs_cons (pg_name (i := 3) scLs.nd rfl (.inr rfl)) pgs_nil))))
      (pss_cons (ps_setLc (i := 4) (own := [("corner", 5)]) (g := gName 5) (tt := _) rfl scLs.nd rfl rfl (sw_true rfl rfl rfl (by decide +kernel)) (pi_list (pv 0)) (blkOk_by (N := nLs) (sc := defScope sLs) (by decide +kernel)) (fun _ _ _ _ _ => pg_name (i := 5) scLs.nd rfl (Or.inl rfl))
          (fun _ _ _ _ _ => pts_one (pt_cmpR op_gt (pe_call OT h1 (by rfl) gT FT.kp bT .nil pass0 (pa_cons (pv 2) (pa_cons (pv 3) (pa_cons (pv 5) pa_nil)))) pe_int (nomark _))) (fun _ _ _ _ _ => pv 5))
      (pss_one (ps_ret (pe_cmpR op_eq (pe_callB call_len_seq (by rfl) T.mlen PySem.boot_len (pa_cons (pv 4) pa_nil)) (pe_op op_sub (pe_callB call_len_seq (by rfl) T.mlen PySem.boot_len (pa_cons (pv 0) pa_nil)) pe_int) (nomark _))))), ?_⟩
    have lb : (i + 1) % ks.length < ks.length := Nat.mod_lt _ (by omega)
    obtain ⟨p, hp⟩ : ∃ p, ks[i]? = some p := ⟨_, List.getElem?_eq_getElem hi⟩
    obtain ⟨r, hr2⟩ : ∃ r, ks[(i + 1) % ks.length]? = some r := ⟨_, List.getElem?_eq_getElem lb⟩
    have mp := List.mem_of_getElem? hp
    have mr := List.mem_of_getElem? hr2
    refine ⟨.ref c, rfl, _, rfl, c, _, (i : Int), .ref p.1, rfl, rfl, hS, atI_nat (refs_at hp), .ref c, rfl, _, rfl, c, ks, i, r, rfl, hS, hr2, by show 2 ≤ sizeLine; decide, fun t nt => ?_⟩
    have s1 : Same H (upd H t (.tup [.ref p.1, .ref r.1])) := same_new nt
    refine ⟨t, _, rfl, SqT.of upd_same, rfl, .ref p.1, [.ref r.1], rfl, .ref r.1, [], rfl, rfl, ?_⟩
    generalize upd H t (.tup [.ref p.1, .ref r.1]) = H1 at s1 ⊢
    refine ⟨.ref c, rfl, c, rfl, ⟨_, s1.seq hS⟩, fun D nD => ?_⟩
    refine lc_list (K := K) (a := c) (xs := refs ks) (fun j H' => Same H1 H' ∧ H' D = some (.lst (refs ((ks.take j).filter fun x => decide (0 < Hull.turn p.2 r.2 x.2))))) ⟨same_new nD, upd_same⟩ (fun j H' _ z => (s1.trans z.1).seq hS) (fun j v H' hv z => ?_) fun H2 z => ?_
    · obtain ⟨x, hx, rfl⟩ := refs_get hv
      have mx := List.mem_of_getElem? hx
      have sz := s1.trans z.1
      have Tz := hT.same sz
      refine ⟨rfl, .ref p.1, rfl, .ref r.1, rfl, .ref x.1, rfl, p.1, r.1, x.1, p.2, r.2, x.2, rfl, Tz p mp, Tz r mr, Tz x mx, small p mp, small r mr, small x mx, _, _, rfl, rfl, _, rfl, ite2 (fun d => ?_) (fun d => ?_)⟩
      · have d1 : 0 < Hull.turn p.2 r.2 x.2 := of_decide_eq_true d
        refine ⟨_, rfl, _, z.2, ?_, ?_, ?_⟩
        · rw [refs_len]
          have := List.length_filter_le (fun x : Addr × Hull.P => decide (0 < Hull.turn p.2 r.2 x.2)) (ks.take j)
          have h2 : (ks.take j).length ≤ ks.length := by rw [List.length_take]; omega
          exact Nat.lt_of_lt_of_le (show _ < 11 by omega) (by decide)
        · exact fun b o e => by
            have nb : b ≠ D := fun y => by rw [y, nD] at e; cases e
            rw [upd_ne nb]
            exact z.1 b o e
        · rw [upd_same, take_succ_at hx, List.filter_append]
          simp [refs, d1]
      · have d1 : ¬ 0 < Hull.turn p.2 r.2 x.2 := fun y => d (decide_eq_true y)
        refine ⟨z.1, ?_⟩
        rw [z.2, take_succ_at hx, List.filter_append]
        simp [d1]
    · obtain ⟨s2', hD⟩ := z
      have s2 := s1.trans s2'
      rw [refs_len, List.take_length] at hD
      have cnt := left_count (cs := ks.map (·.2)) (by rw [List.length_map]; exact l3) O (i := i) (a := p.2) (b := r.2) (by rw [List.length_map]; exact hi) (by rw [List.getElem?_map, hp]; rfl) (by rw [List.length_map, List.getElem?_map, hr2]; rfl)
      rw [List.filter_map, List.length_map, List.length_map] at cnt
      have lf : (refs (ks.filter fun x => decide (0 < Hull.turn p.2 r.2 x.2))).length = ks.length - 2 := by
        rw [refs_len]
        exact cnt
      refine ⟨_, rfl, D, _, rfl, .inl (SqL.of hD), .ref c, rfl, c, _, rfl, .inl (s2.seq hS), _, _, rfl, rfl, rfl, ?_⟩
      rw [lf, refs_len, decide_eq_true (show V.int ((ks.length - 2 : Nat) : Int) = V.int ((ks.length : Int) - 2) from by congr 1; omega)]
      exact q _ s2
def spOut (K : PySem.W.Frag) : Sp := fun vs H Q _ => ∃ (c : Addr) (ks : Pts), vs = [.ref c] ∧ SqL K H c (refs ks) ∧ At K H ks ∧ (∀ p ∈ ks, Sm p.2) ∧ 3 ≤ ks.length ∧ ks.length ≤ 10 ∧ Out (ks.map (·.2)) ∧ ∀ H', Same H H' → Q (.bl true) H'
theorem ok_out {f fL : Addr} {fd fdL : FuncData} {k : Nat} (F : Fun K "is_outline" "is_outline" sOut f fd) (OL : FnOk P w K mg base CX0 (k + 1) fL fdL ["corners", "side"] (spLs K)) (kL : PySem.W.keepIn K (.ref fL) = true) (bL : Binds K fdL ["corners", "side"] []) (gL : mg "is_left_of_side" = some (.ref fL)) (T : Nms mg) (T2 : Nm2 mg) :
    FnOk P w K mg base CX0 (k + 1 + 1) f fd ["corners"] (spOut K) := by
  refine F.ok scOut (fun vs H Q E h => ?_) (fun cdv A outer s H vs Q E hr h => ?_)
  · obtain ⟨c, ks, rfl, _⟩ := h
    rfl
  · obtain ⟨c, ks, rfl, hS, hT, small, l3, l10, O, q⟩ := h
    have hu8 : (A.deeper (envOfC "is_outline" (defScope sOut) s.heap.objs.size f cdv)).units + 8 < cLine := by have := hr.un; omega
    refine ⟨_, pss_cons (ps_if (pt_cmpR (op_neD (hu_of64 hr)) (pe_callB (cr_minP rfl hu8) (by rfl) T2.mmin (by decide +kernel) (pa_cons (pv 0) pa_nil)) (pe_ix ix_list (pv 0) pe_int (fun _ _ => rfl)) (nomark _)) (pss_one (ps_ret pe_bl)) pss_nil)
      (pss_one (ps_ret (pe_callB (cr_all rfl) (by rfl) T2.mall (by decide +kernel) (pa_cons (pe_lc (own := [("side", 1)]) (g := gName 1) (tt := tYes) rfl scOut.nd (pi_range1 rfl T2.mrange (pa_cons (pe_callB call_len_seq (by rfl) T.mlen PySem.boot_len (pa_cons (pv 0) pa_nil)) pa_nil)) (blkOk_by (N := nOut) (sc := defScope sOut) (by decide +kernel)) (fun _ _ _ _ _ => pg_name (i := 1) scOut.nd rfl (Or.inl rfl)) (fun _ _ _ _ _ => pts_nil)
          (fun _ _ _ _ _ => pe_call OL hr (by rfl) gL kL bL .nil pass0 (pa_cons (pv 0) (pa_cons (pv 1) pa_nil)))) pa_nil)))), ?_⟩
    obtain ⟨⟨m, e0, least⟩, _⟩ := id O
    obtain ⟨p0, hp0, em⟩ : ∃ p, ks[0]? = some p ∧ p.2 = m := by
      rw [List.getElem?_map] at e0
      exact Option.map_eq_some_iff.mp e0
    have m0 := List.mem_of_getElem? hp0
    refine ⟨.ref c, rfl, c, ks, rfl, hS, hT, fun z => by rw [z] at l3; simp at l3, fun p hp hb => ?_⟩
    have ep : p.2 = p0.2 := by
      rw [em]
      refine Classical.byContradiction fun n => ?_
      have z := least p.2 (List.mem_map.mpr ⟨p, hp, rfl⟩) n
      have y := hb p0 m0
      rw [em, lexO_iff.mpr z] at y
      cases y
    refine ⟨.ref c, rfl, c, _, 0, .ref p0.1, rfl, rfl, hS, atI_nat (j := 0) (refs_at hp0), ptD p.2, ptD p0.2, dp_pt (hT p hp), dp_pt (hT p0 m0), shaped_pt _, shaped_pt _, _, rfl, ?_⟩
    rw [ep, eqv_self (shaped_pt _)]
    refine iteF ?_
    refine ⟨.ref c, rfl, c, _, rfl, .inl hS, _, rfl, by rw [refs_len]; omega, by rw [refs_len]; omega, fun D nD => ?_⟩
    refine lc_range (lo := 0) (n := ((refs ks).length : Int).toNat) (fun j H' => Same H H' ∧ H' D = some (.lst ((List.replicate j true).map V.bl))) ⟨same_new nD, upd_same⟩ ?_ ?_
    · rintro j H' hj ⟨sz, hD⟩
      have hj2 : j < ks.length := by rw [refs_len] at hj; omega
      refine ⟨rfl, yesT ?_⟩
      refine ⟨.ref c, rfl, _, rfl, c, ks, j, by simp, sz.seq hS, hT.same sz, small, l3, l10, O, hj2, fun H'' s'' => ?_⟩
      refine ⟨_, s'' _ _ hD, by simp; exact Nat.lt_of_lt_of_le (show j < 11 by omega) (by decide), fun b o e => ?_, ?_⟩
      · have nb : b ≠ D := fun y => by rw [y, nD] at e; cases e
        rw [upd_ne nb]
        exact (sz.trans s'') b o e
      · rw [upd_same, List.replicate_succ', List.map_append]
        rfl
    · rintro H' ⟨sz, hD⟩
      refine ⟨D, List.replicate _ true, rfl, SqL.of hD, ?_⟩
      rw [show (List.replicate ((refs ks).length : Int).toNat true).all id = true by simp]
      exact q _ sz
end
end K12
set_option Elab.async false
set_option linter.all false
set_option maxRecDepth 100000
set_option maxHeartbeats 1000000
set_option exponentiation.threshold 20000
namespace K12
open PySem PySem.Spec PyProof.Rows L2 Fen
section
variable {P : Program} {w : World} {K : PySem.W.Frag} {mg : Str → Option Value} {base : Heap}
def spCs (K : PySem.W.Frag) : Sp := fun vs H Q _ => ∃ (c : Addr) (ks : Pts), vs = [.ref c] ∧ SqL K H c (refs ks) ∧ At K H ks ∧ (∀ p ∈ ks, Cor p.2) ∧ 1 ≤ ks.length ∧ ks.length ≤ 10 ∧ Shape (ks.map (·.2)) ∧ ∀ H', Same H H' → Q (.bl true) H'
theorem ok_cs {f fC fO : Addr} {fd fdC fdO : FuncData} {k : Nat} (F : Fun K "are_corners" "are_corners" sCs f fd) (OC : FnOk P w K mg base CX0 (k + 1) fC fdC ["value"] (spIsC K)) (kC : PySem.W.keepIn K (.ref fC) = true) (bC : Binds K fdC ["value"] []) (gC : mg "is_corner" = some (.ref fC))
    (OO : FnOk P w K mg base CX0 (k + 1) fO fdO ["corners"] (spOut K)) (kO : PySem.W.keepIn K (.ref fO) = true) (bO : Binds K fdO ["corners"] []) (gO : mg "is_outline" = some (.ref fO)) (T : Nms mg) (T2 : Nm2 mg) : FnOk P w K mg base CX0 (k + 1 + 1) f fd ["value"] (spCs K) := by
  obtain ⟨t, mc⟩ := T.mc
  refine F.ok scCs (fun vs H Q E h => ?_) (fun cdv A outer s H vs Q E hr h => ?_)
  · obtain ⟨c, ks, rfl, _⟩ := h
    rfl
  · obtain ⟨c, ks, rfl, hS, hT, co, l1, l2, S, q⟩ := h
    have hu : (A.deeper (envOfC "are_corners" (defScope sCs) s.heap.objs.size f cdv)).units < cLine := by have := hr.un; omega
    refine ⟨_, pss_cons (ps_if (PW.pt (pw_or (pt_not (pt_val (pe_callB call_isi (by rfl) T.mii (by decide +kernel) (pa_cons (pv 0) (pa_cons (pe_bltn (v := .ty "list") (by rfl) T.mlst (by decide +kernel) rfl) pa_nil)))))
        (pw_or1 (pt_not (pt_chain op_le op_le pe_int (pe_callB call_len_seq (by rfl) T.mlen PySem.boot_len (pa_cons (pv 0) pa_nil)) (pe_glob (v := .int 10) (by rfl) mc ⟨_, rfl⟩)))))) (pss_one (ps_ret pe_bl)) pss_nil)
      (pss_cons (ps_if (pt_not (pt_val (pe_callB (cr_all rfl) (by rfl) T2.mall (by decide +kernel) (pa_cons (pe_lc (own := [("corner", 1)]) (g := gName 1) (tt := tYes) rfl scCs.nd (pi_list (pv 0)) (blkOk_by (N := nCs) (sc := defScope sCs) (by decide +kernel)) (fun _ _ _ _ _ => pg_name (i := 1) scCs.nd rfl (Or.inl rfl)) (fun _ _ _ _ _ => pts_nil)
          (fun _ _ _ _ _ => pe_call OC hr (by rfl) gC kC bC .nil pass0 (pa_cons (pv 1) pa_nil))) pa_nil)))) (pss_one (ps_ret pe_bl)) pss_nil)
      (pss_cons (ps_if (pt_cmpR op_eq (pe_callB call_len_seq (by rfl) T.mlen PySem.boot_len (pa_cons (pv 0) pa_nil)) pe_int (nomark _)) (pss_one (ps_ret pe_bl)) pss_nil)
      (pss_cons (ps_if (pt_cmpR op_eq (pe_callB call_len_seq (by rfl) T.mlen PySem.boot_len (pa_cons (pv 0) pa_nil)) pe_int (nomark _)) (pss_one (ps_ret (pe_cmpR (op_ltT hu) (pe_ix ix_list (pv 0) pe_int (fun _ _ => rfl)) (pe_ix ix_list (pv 0) pe_int (fun _ _ => rfl)) (nomark _)))) pss_nil)
      (pss_one (ps_ret (pe_call OO hr (by rfl) gO kO bO .nil pass0 (pa_cons (pv 0) pa_nil))))))), ?_⟩
    refine ⟨_, rfl, .ref c, .ty "list", .type "list", .type "list", true, rfl, .ty _, ty_lst hS, kit_ll, true, rfl, ?_⟩
    refine iteF ?_
    refine ⟨.ref c, rfl, c, _, rfl, .inl hS, _, _, rfl, rfl, _, rfl, ?_⟩
    rw [refs_len, if_pos (decide_eq_true (show (1 : Int) ≤ (ks.length : Int) by omega))]
    refine ⟨_, _, rfl, rfl, _, rfl, ?_⟩
    rw [decide_eq_true (show (ks.length : Int) ≤ 10 by omega)]
    refine iteF ?_
    refine ⟨.ref c, rfl, c, rfl, ⟨_, hS⟩, fun D nD => ?_⟩
    refine lc_list (K := K) (a := c) (xs := refs ks) (fun j H' => Same H H' ∧ H' D = some (.lst ((List.replicate j true).map V.bl))) ⟨same_new nD, upd_same⟩ (fun j H' _ z => z.1.seq hS) (fun j v H' hv z => ?_) fun H1 z => ?_
    · obtain ⟨x, hx, rfl⟩ := refs_get hv
      have mx := List.mem_of_getElem? hx
      have jl : j < ks.length := (List.getElem?_eq_some_iff.mp hx).1
      obtain ⟨sz, hD⟩ := z
      refine ⟨rfl, yesT ?_⟩
      refine ⟨.ref x.1, rfl, x.1, x.2, rfl, (hT.same sz) x mx, co x mx, _, hD, by simp; exact Nat.lt_of_lt_of_le (show j < 11 by omega) (by decide), fun b o e => ?_, ?_⟩
      · have nb : b ≠ D := fun y => by rw [y, nD] at e; cases e
        rw [upd_ne nb]
        exact sz b o e
      · rw [upd_same, List.replicate_succ', List.map_append]
        rfl
    obtain ⟨s1, hD⟩ := z
    refine ⟨D, List.replicate _ true, rfl, SqL.of hD, _, rfl, ?_⟩
    rw [show (List.replicate (refs ks).length true).all id = true by simp]
    refine iteF ?_
    have hS1 := s1.seq hS
    have hT1 := hT.same s1
    refine ⟨.ref c, rfl, c, _, rfl, .inl hS1, rfl, _, rfl, ite2 (fun d => ?_) (fun d => ?_)⟩
    · exact q _ s1
    rw [refs_len] at d
    have d1 : ks.length ≠ 1 := fun z => d (decide_eq_true (by rw [z]; rfl))
    refine ⟨.ref c, rfl, c, _, rfl, .inl hS1, rfl, _, rfl, ite2 (fun e => ?_) (fun e => ?_)⟩
    · rw [refs_len] at e
      have e1 : (ks.length : Int) = 2 := V.int.inj (of_decide_eq_true e)
      obtain ⟨x, y, rfl⟩ : ∃ x y, ks = [x, y] := by
        rcases ks with _ | ⟨x, _ | ⟨y, _ | ⟨z, r⟩⟩⟩
        · simp at e1
        · simp at e1
        · exact ⟨x, y, rfl⟩
        · simp at e1
          omega
      have lt : Hull.Lt x.2 y.2 := by
        rcases S with z | ⟨a, b, z, lt⟩ | ⟨z, _⟩
        · simp at z
        · have z1 := (List.cons.inj z)
          have z2 := List.cons.inj z1.2
          have q1 : x.2 = a := z1.1
          have q2 : y.2 = b := z2.1
          rw [q1, q2]
          exact lt
        · simp at z
      refine ⟨.ref c, rfl, c, _, 0, .ref x.1, rfl, rfl, hS1, atI_nat (j := 0) rfl, .ref c, rfl, c, _, 1, .ref y.1, rfl, rfl, hS1, atI_nat (j := 1) rfl, x.1, y.1, [x.2.1, x.2.2], [y.2.1, y.2.2], rfl, rfl, hT1 x (by simp), hT1 y (by simp), ?_⟩
      rw [lexLt2, lexO_iff.mpr lt]
      exact q _ s1
    · rw [refs_len] at e
      have e1 : ks.length ≠ 2 := fun z => e (decide_eq_true (by rw [z]; rfl))
      have l3 : 3 ≤ ks.length := by omega
      have O : Out (ks.map (·.2)) := by
        rcases S with z | ⟨a, b, z, lt⟩ | ⟨_, O⟩
        · rw [List.length_map] at z
          omega
        · have := congrArg List.length z
          rw [List.length_map] at this
          simp at this
          omega
        · exact O
      exact ⟨.ref c, rfl, c, ks, rfl, hS1, hT1, fun p hp => (co p hp).sm, l3, l2, O, fun H' s' => q _ (s1.trans s')⟩
def spTot (K : PySem.W.Frag) : Sp := fun vs H Q _ => ∃ (c : Addr) (ks : Pts), vs = [.ref c] ∧ SqL K H c (refs ks) ∧ Q (.int (tot (ks.map (·.2)))) H
theorem ok_tot {f : Addr} {fd : FuncData} {k : Nat} (F : Fun K "side_total" "side_total" sTot f fd) (T : Nms mg) : FnOk P w K mg base CX0 (k + 1) f fd ["corners"] (spTot K) := by
  refine F.ok scTot (fun vs H Q E h => ?_) (fun cdv A outer s H vs Q E hr h => ?_)
  · obtain ⟨c, ks, rfl, _⟩ := h
    rfl
  · obtain ⟨c, ks, rfl, hS, q⟩ := h
    refine ⟨_, pss_cons (ps_if (pt_cmpR op_eq (pe_callB call_len_seq (by rfl) T.mlen PySem.boot_len (pa_cons (pv 0) pa_nil)) pe_int (nomark _)) (pss_one (ps_ret pe_int)) pss_nil)
      (pss_one (ps_ret (pe_callB call_len_seq (by rfl) T.mlen PySem.boot_len (pa_cons (pv 0) pa_nil)))), ?_⟩
    unfold tot at q
    rw [List.length_map] at q
    refine ⟨.ref c, rfl, c, _, rfl, .inl hS, rfl, _, rfl, ite2 (fun d => ?_) (fun d => ?_)⟩
    · rw [refs_len] at d
      have d1 : (ks.length : Int) = 1 := V.int.inj (of_decide_eq_true d)
      rw [if_pos (by omega)] at q
      exact q
    · rw [refs_len] at d
      have d1 : ks.length ≠ 1 := fun z => d (decide_eq_true (by rw [z]; rfl))
      rw [if_neg d1] at q
      refine ⟨.ref c, rfl, c, _, rfl, .inl hS, ?_⟩
      rw [refs_len]
      exact q
def spSd (K : PySem.W.Frag) : Sp := fun vs H Q _ => ∃ (o : Addr) (os : List Int) (n : Int), vs = [.ref o, .int n] ∧ SqL K H o (os.map V.int) ∧ os.Pairwise (· < ·) ∧ (∀ x ∈ os, 0 ≤ x ∧ x < n) ∧ Q (.bl true) H
theorem ok_sd {f fB : Addr} {fd fdB : FuncData} {k : Nat} (F : Fun K "are_open_sides" "are_open_sides" sSd f fd) (OB : FnOk P w K mg base CX0 (k + 1) fB fdB ["value", "least", "greatest"] spBet) (kB : PySem.W.keepIn K (.ref fB) = true) (bB : Binds K fdB ["value", "least", "greatest"] []) (gB : mg "is_between" = some (.ref fB)) (T : Nms mg) : FnOk P w K mg base CX0 (k + 1 + 1) f fd ["value", "total"] (spSd K) := by
  refine F.ok scSd (fun vs H Q E h => ?_) (fun cdv A outer s H vs Q E hr h => ?_)
  · obtain ⟨o, os, n, rfl, _⟩ := h
    rfl
  · obtain ⟨o, os, n, rfl, hS, up, inn, q⟩ := h
    refine ⟨_, pss_cons (ps_if (pt_not (pt_val (pe_callB call_isi (by rfl) T.mii (by decide +kernel) (pa_cons (pv 0) (pa_cons (pe_bltn (v := .ty "list") (by rfl) T.mlst (by decide +kernel) rfl) pa_nil))))) (pss_one (ps_ret pe_bl)) pss_nil)
      (pss_cons (ps_set (i := 2) scSd.nd rfl (.inl rfl) pe_int)
      (pss_cons (ps_for PassesOwn.never rfl (pi_list (pv 0)) (pg_name (i := 3) scSd.nd rfl (.inl rfl))
        (pss_cons (ps_if (pt_not (pt_val (pe_call OB hr (by rfl) gB kB bB .nil pass0 (pa_cons (pv 3) (pa_cons (pv 2) (pa_cons (pe_op op_sub (pv 1) pe_int) pa_nil)))))) (pss_one (ps_ret pe_bl)) pss_nil)
        (pss_one (ps_set (i := 2) scSd.nd rfl (.inl rfl) (pe_op op_add (pv 3) pe_int)))))
      (pss_one (ps_ret pe_bl)))), ?_⟩
    refine ⟨_, rfl, .ref o, .ty "list", .type "list", .type "list", true, rfl, .ty _, ty_lst hS, kit_ll, true, rfl, ?_⟩
    refine iteF ?_
    refine ⟨.ref o, rfl, o, rfl, ⟨_, hS⟩, ?_⟩
    refine for_list (K := K) (a := o) (xs := os.map V.int) (fun i σ H' => ∃ (least : Int) (y3 : Option V), σ = [some (.ref o), some (.int n), some (.int least), y3] ∧ H' = H ∧ ∀ x ∈ os.drop i, least ≤ x) ⟨0, none, rfl, rfl, fun x hx => (inn x (List.mem_of_mem_drop hx)).1⟩ ?_ ?_ ?_
    · rintro i σ H' _ ⟨_, _, _, rfl, _⟩
      exact hS
    · rintro i v σ H' hv ⟨least, y3, rfl, rfl, lo⟩
      rw [List.getElem?_map] at hv
      obtain ⟨x, hx, rfl⟩ := Option.map_eq_some_iff.mp hv
      have il : i < os.length := (List.getElem?_eq_some_iff.mp hx).1
      have ed : os.drop i = x :: os.drop (i + 1) := by
        rw [List.drop_eq_getElem_cons il, show os[i] = x from Option.some.inj ((List.getElem?_eq_getElem il).symm.trans hx)]
      have mx := List.mem_of_getElem? hx
      have upd' : (x :: os.drop (i + 1)).Pairwise (· < ·) := by
        rw [← ed]
        exact List.Pairwise.sublist (List.drop_sublist i os) up
      refine ⟨_, rfl, _, rfl, _, rfl, _, _, rfl, rfl, x, least, n - 1, rfl, lo x (by rw [ed]; exact List.mem_cons_self), by have := (inn x mx).2; omega, true, rfl, ?_⟩
      refine iteF ?_
      refine ⟨_, rfl, _, _, rfl, rfl, x + 1, _, rfl, rfl, fun y hy => ?_⟩
      have := (List.pairwise_cons.mp upd').1 y hy
      omega
    · rintro σ H' ⟨least, y3, rfl, rfl, lo⟩
      exact q
def spChk (K : PySem.W.Frag) : Sp := fun vs H Q _ => ∃ (t c o : Addr) (b : Int) (ks : Pts) (os : List Int), vs = [.ref t] ∧ FAt K H t c o b ks os ∧ IsF b (ks.map (·.2)) os ∧ ∀ H', Same H H' → Q .non H'
theorem ok_chk {f fB fC fT fS : Addr} {fd fdB fdC fdT fdS : FuncData} {k : Nat} (F : Fun K "check_fence" "check_fence" sChk f fd) (T : Nms mg)
    (OB : FnOk P w K mg base CX0 (k + 1) fB fdB ["value"] spChB) (kB : PySem.W.keepIn K (.ref fB) = true) (bB : Binds K fdB ["value"] []) (gB : mg "check_bottom" = some (.ref fB))
    (OC : FnOk P w K mg base CX0 (k + 1) fC fdC ["value"] (spCs K)) (kC : PySem.W.keepIn K (.ref fC) = true) (bC : Binds K fdC ["value"] []) (gC : mg "are_corners" = some (.ref fC))
    (OT : FnOk P w K mg base CX0 (k + 1) fT fdT ["corners"] (spTot K)) (kT : PySem.W.keepIn K (.ref fT) = true) (bT : Binds K fdT ["corners"] []) (gT : mg "side_total" = some (.ref fT))
    (OS : FnOk P w K mg base CX0 (k + 1) fS fdS ["value", "total"] (spSd K)) (kS : PySem.W.keepIn K (.ref fS) = true) (bS : Binds K fdS ["value", "total"] []) (gS : mg "are_open_sides" = some (.ref fS)) :
    FnOk P w K mg base CX0 (k + 1 + 1) f fd ["value"] (spChk K) := by
  refine F.ok scChk (fun vs H Q E h => ?_) (fun cdv A outer s H vs Q E hr h => ?_)
  · obtain ⟨t, c, o, b, ks, os, rfl, _⟩ := h
    rfl
  · obtain ⟨t, c, o, b, ks, os, rfl, fa, isf, q⟩ := h
    refine ⟨_, pss_cons (ps_if (PW.pt (pw_or (pt_not (pt_val (pe_callB call_isi (by rfl) T.mii (by decide +kernel) (pa_cons (pv 0) (pa_cons (pe_bltn (v := .ty "tuple") (by rfl) T.mtup (by decide +kernel) rfl) pa_nil)))))
        (pw_or1 (pt_cmpR op_ne (pe_callB call_len_seq (by rfl) T.mlen PySem.boot_len (pa_cons (pv 0) pa_nil)) pe_int (nomark _))))) (pss_one ps_no) pss_nil)
      (pss_cons (ps_asg (pv 0) (pg_tup rfl (pgs_cons (pg_name (i := 1) scChk.nd rfl (.inl rfl)) (pgs_cons (pg_name (i := 2) scChk.nd rfl (.inl rfl)) (pgs_cons (pg_name (i := 3) scChk.nd rfl (.inl rfl)) pgs_nil)))))
      (pss_cons (ps_expr (pe_call OB hr (by rfl) gB kB bB .nil pass0 (pa_cons (pv 1) pa_nil)))
      (pss_cons (ps_if (pt_not (pt_val (pe_call OC hr (by rfl) gC kC bC .nil pass0 (pa_cons (pv 2) pa_nil)))) (pss_one ps_no) pss_nil)
      (pss_one (ps_if (pt_not (pt_val (pe_call OS hr (by rfl) gS kS bS .nil pass0 (pa_cons (pv 3) (pa_cons (pe_call OT hr (by rfl) gT kT bT .nil pass0 (pa_cons (pv 2) pa_nil)) pa_nil))))) (pss_one ps_no) pss_nil))))), ?_⟩
    refine ⟨_, rfl, .ref t, .ty "tuple", .type "tuple", .type "tuple", true, rfl, .ty _, ty_tup fa.tup, kit_tt, true, rfl, ?_⟩
    refine iteF ?_
    refine ⟨.ref t, rfl, t, _, rfl, .inr fa.tup, rfl, false, rfl, iteF ?_⟩
    refine ⟨.ref t, rfl, t, _, rfl, fa.tup, rfl, .int b, [.ref c, .ref o], rfl, .ref c, [.ref o], rfl, .ref o, [], rfl, rfl, ?_⟩
    refine ⟨_, rfl, b, rfl, isf.b1, isf.b2, ?_⟩
    have ll : (ks.map (·.2)).length = ks.length := List.length_map ..
    refine ⟨.ref c, rfl, c, ks, rfl, fa.cor, fa.pts, fun p hp => isf.co _ (List.mem_map.mpr ⟨p, hp, rfl⟩), by rw [← ll]; exact isf.l1, by rw [← ll]; exact isf.l2, isf.sh, fun H1 s1 => ⟨true, rfl, iteF ?_⟩⟩
    refine ⟨.ref o, rfl, .ref c, rfl, c, ks, rfl, s1.seq fa.cor, o, os, _, rfl, s1.seq fa.sid, isf.up, isf.inn, true, rfl, iteF ?_⟩
    exact q _ s1
end
end K12
set_option Elab.async false
set_option linter.all false
set_option maxRecDepth 100000
set_option maxHeartbeats 1000000
/-! whole numbers: bounds on a line, sums of quotients -/
namespace Lat
def leastFrom (top b : Int) (o : Bool) : Int := if o = true then top / b + 1 else -(-top / b)
def greatestTo (top b : Int) (o : Bool) : Int := -leastFrom (-top) b o
theorem least_le {top b v : Int} {o : Bool} (hb : 0 < b) : leastFrom top b o ≤ v ↔ (if o = true then top < b * v else top ≤ b * v) := by
  unfold leastFrom
  cases o with
  | true =>
    rw [if_pos rfl, if_pos rfl, Int.add_one_le_iff, Int.ediv_lt_iff_lt_mul hb, Int.mul_comm]
  | false =>
    rw [if_neg (by decide), if_neg (by decide)]
    have h := Int.le_ediv_iff_mul_le (a := -v) (b := -top) hb
    rw [Int.neg_mul, Int.mul_comm v b] at h
    constructor
    · intro z
      have := h.mp (by omega)
      omega
    · intro z
      have := h.mpr (by omega)
      omega
theorem le_greatest {top b v : Int} {o : Bool} (hb : 0 < b) : v ≤ greatestTo top b o ↔ (if o = true then b * v < top else b * v ≤ top) := by
  unfold greatestTo
  have h := least_le (top := -top) (b := b) (v := -v) (o := o) hb
  rw [Int.mul_neg] at h
  constructor
  · intro z
    have := h.mp (by omega)
    split at this <;> split <;> first | omega | contradiction
  · intro z
    have : leastFrom (-top) b o ≤ -v := h.mpr (by split at z <;> split <;> first | omega | contradiction)
    omega
/-- how far a line lets a row go -/
def reach (across up bound row : Int) : Int := (up * row - bound) / (across.natAbs : Int)
theorem reach_pos {across up bound row x : Int} (h : 0 < across) : bound ≤ across * x + up * row ↔ -reach across up bound row ≤ x := by
  unfold reach
  have e : (across.natAbs : Int) = across := by omega
  rw [e]
  have z := Int.le_ediv_iff_mul_le (a := -x) (b := up * row - bound) h
  rw [Int.neg_mul, Int.mul_comm x across] at z
  constructor
  · intro w
    have := z.mpr (by omega)
    omega
  · intro w
    have := z.mp (by omega)
    omega
theorem reach_neg {across up bound row x : Int} (h : across < 0) : bound ≤ across * x + up * row ↔ x ≤ reach across up bound row := by
  unfold reach
  have e : (across.natAbs : Int) = -across := by omega
  rw [e]
  have z := Int.le_ediv_iff_mul_le (a := x) (b := up * row - bound) (c := -across) (by omega)
  rw [Int.mul_neg, Int.mul_comm x across] at z
  constructor
  · intro w
    exact z.mpr (by omega)
  · intro w
    have := z.mp w
    omega
/-- the sum of f 0 to f (n - 1) -/
def sumN (f : Nat → Int) : Nat → Int
  | 0 => 0
  | n + 1 => sumN f n + f n
theorem sum_congr {f g : Nat → Int} : ∀ {n : Nat}, (∀ i, i < n → f i = g i) → sumN f n = sumN g n
  | 0, _ => rfl
  | n + 1, h => by
    show sumN f n + f n = sumN g n + g n
    rw [sum_congr fun i hi => h i (Nat.lt_succ_of_lt hi), h n (Nat.lt_succ_self n)]
theorem sum_add (f g : Nat → Int) : ∀ n, sumN (fun i => f i + g i) n = sumN f n + sumN g n
  | 0 => rfl
  | n + 1 => by
    show sumN (fun i => f i + g i) n + (f n + g n) = _
    rw [sum_add f g n]
    show _ = sumN f n + f n + (sumN g n + g n)
    omega
theorem sum_zero : ∀ n, sumN (fun _ => 0) n = 0
  | 0 => rfl
  | n + 1 => by
    show sumN (fun _ => 0) n + 0 = 0
    rw [sum_zero n]
    rfl
theorem sum_const (k : Int) : ∀ n : Nat, sumN (fun _ => k) n = k * n
  | 0 => by simp [sumN]
  | n + 1 => by
    show sumN (fun _ => k) n + k = _
    rw [sum_const k n]
    have : ((n + 1 : Nat) : Int) = n + 1 := rfl
    rw [this, Int.mul_add]
    omega
theorem sum_mul (k : Int) (f : Nat → Int) : ∀ n : Nat, sumN (fun i => k * f i) n = k * sumN f n
  | 0 => by simp [sumN]
  | n + 1 => by
    show sumN (fun i => k * f i) n + k * f n = k * (sumN f n + f n)
    rw [sum_mul k f n, Int.mul_add]
/-- sums change places -/
theorem sum_swap (f : Nat → Nat → Int) (n : Nat) : ∀ m, sumN (fun i => sumN (f i) m) n = sumN (fun j => sumN (fun i => f i j) n) m
  | 0 => sum_zero n
  | m + 1 => by
    show sumN (fun i => sumN (f i) m + f i m) n = sumN (fun j => sumN (fun i => f i j) n) m + sumN (fun i => f i m) n
    rw [sum_add, sum_swap f n m]
/-- backwards -/
theorem sum_head (f : Nat → Int) : ∀ n, sumN f (n + 1) = f 0 + sumN (fun i => f (i + 1)) n
  | 0 => by show 0 + f 0 = f 0 + 0; omega
  | n + 1 => by
    show sumN f (n + 1) + f (n + 1) = f 0 + (sumN (fun i => f (i + 1)) n + f (n + 1))
    rw [sum_head f n]
    omega
theorem sum_rev (f : Nat → Int) : ∀ n, sumN f n = sumN (fun i => f (n - 1 - i)) n
  | 0 => rfl
  | n + 1 => by
    rw [sum_head (fun i => f (n + 1 - 1 - i)) n]
    show sumN f n + f n = f (n + 1 - 1 - 0) + _
    rw [sum_rev f n, show n + 1 - 1 - 0 = n by omega, Int.add_comm]
    congr 1
    exact sum_congr fun i hi => by rw [show n + 1 - 1 - (i + 1) = n - 1 - i by omega]
/-- how many of 0 to n - 1 are below q -/
theorem count_below (q : Int) (h0 : 0 ≤ q) : ∀ n : Nat, sumN (fun i => if (i : Int) < q then 1 else 0) n = if (n : Int) ≤ q then (n : Int) else q
  | 0 => by rw [if_pos (by omega)]; rfl
  | n + 1 => by
    show sumN (fun i => if (i : Int) < q then 1 else 0) n + (if (n : Int) < q then 1 else 0) = _
    rw [count_below q h0 n]
    have : ((n + 1 : Nat) : Int) = n + 1 := rfl
    rw [this]
    split <;> split <;> split <;> omega
/-- how many of 0 to n - 1 are at least q -/
theorem count_from (q : Int) (h0 : 0 ≤ q) : ∀ n : Nat, sumN (fun i => if q ≤ (i : Int) then 1 else 0) n = if q ≤ (n : Int) then (n : Int) - q else 0
  | 0 => by
    show (0 : Int) = _
    split <;> omega
  | n + 1 => by
    show sumN (fun i => if q ≤ (i : Int) then 1 else 0) n + (if q ≤ (n : Int) then 1 else 0) = _
    rw [count_from q h0 n]
    have : ((n + 1 : Nat) : Int) = n + 1 := rfl
    rw [this]
    split <;> split <;> omega
/-- the sum of the quotients of a line -/
def FS (n : Nat) (a c m : Int) : Int := sumN (fun i => (a * i + c) / m) n
theorem sum_id : ∀ n : Nat, 2 * sumN (fun i => (i : Int)) n = (n : Int) * ((n : Int) - 1)
  | 0 => by simp [sumN]
  | n + 1 => by
    show 2 * (sumN (fun i => (i : Int)) n + (n : Int)) = _
    rw [Int.mul_add, sum_id n]
    have : ((n + 1 : Nat) : Int) = n + 1 := rfl
    rw [this]
    grind
theorem sum_id' (n : Nat) : sumN (fun i => (i : Int)) n = (n : Int) * ((n : Int) - 1) / 2 := by
  have := sum_id n
  omega
theorem fs_slope {n : Nat} {a c m : Int} (hm : 0 < m) : FS n a c m = a / m * ((n : Int) * ((n : Int) - 1) / 2) + FS n (a % m) c m := by
  unfold FS
  rw [← sum_id', ← sum_mul, ← sum_add]
  refine sum_congr fun i _ => ?_
  have e : a * i + c = (a % m * i + c) + m * (a / m * i) := by
    have := Int.mul_ediv_add_emod a m
    have z : a * i = (m * (a / m) + a % m) * i := by rw [this]
    rw [z]
    grind
  rw [e, Int.add_mul_ediv_left _ _ (by omega), Int.add_comm]
theorem fs_start {n : Nat} {a c m : Int} (hm : 0 < m) : FS n a c m = c / m * n + FS n a (c % m) m := by
  unfold FS
  rw [← sum_const, ← sum_add]
  refine sum_congr fun i _ => ?_
  have e : a * i + c = (a * i + c % m) + m * (c / m) := by
    have := Int.mul_ediv_add_emod c m
    omega
  rw [e, Int.add_mul_ediv_left _ _ (by omega), Int.add_comm]
/-- the places under a line, counted the other way -/
theorem fs_flip {n : Nat} {a c m : Int} (hm : 0 < m) (a0 : 0 ≤ a) (c0 : 0 ≤ c) (c1 : c < m) (a1 : a < m) : FS n a c m = FS ((a * n + c) / m).toNat m ((a * n + c) % m) a := by
  have tz : 0 ≤ a * n := Int.mul_nonneg a0 (by omega)
  have p0 : 0 ≤ (a * n + c) / m := Int.ediv_nonneg (by omega) (by omega)
  obtain ⟨p, hp⟩ : ∃ p : Nat, (a * n + c) / m = (p : Int) := ⟨((a * n + c) / m).toNat, by omega⟩
  have ed := Int.mul_ediv_add_emod (a * n + c) m
  have r0 := Int.emod_nonneg (a * n + c) (show m ≠ 0 by omega)
  rw [hp] at ed ⊢
  rw [Int.toNat_natCast]
  generalize (a * n + c) % m = r at ed r0 ⊢
  by_cases az : a = 0
  · subst az
    have : p = 0 := by
      have h : c / m = (p : Int) := by rw [← hp]; congr 1; omega
      rw [Int.ediv_eq_zero_of_lt c0 c1] at h
      omega
    subst this
    unfold FS
    show sumN _ n = 0
    rw [show sumN (fun i => (0 * (i : Int) + c) / m) n = sumN (fun _ => 0) n from sum_congr fun i _ => by rw [Int.zero_mul, Int.zero_add, Int.ediv_eq_zero_of_lt c0 c1], sum_zero]
  · have ap : 0 < a := by omega
    unfold FS
    have s1 : sumN (fun i => (a * i + c) / m) n = sumN (fun i => sumN (fun j => if (j : Int) < (a * i + c) / m then 1 else 0) p) n := sum_congr fun i hi => by
      have ai : 0 ≤ a * i := Int.mul_nonneg a0 (by omega)
      have q0 : 0 ≤ (a * i + c) / m := Int.ediv_nonneg (by omega) (by omega)
      have le : a * i ≤ a * n := Int.mul_le_mul_of_nonneg_left (by omega) a0
      have q1 : (a * i + c) / m ≤ p := by rw [← hp]; exact Int.ediv_le_ediv hm (by omega)
      rw [count_below _ q0]
      split <;> omega
    rw [s1, sum_swap, sum_rev]
    refine sum_congr fun j hj => ?_
    obtain ⟨k, hk⟩ : ∃ k : Nat, p - 1 - j = k := ⟨_, rfl⟩
    have kj : (k : Int) = p - 1 - j := by omega
    rw [hk]
    have s2 : sumN (fun i => if (k : Int) < (a * i + c) / m then 1 else 0) n = sumN (fun i => if leastFrom ((k + 1) * m - c) a false ≤ (i : Int) then 1 else 0) n := sum_congr fun i hi => by
      have h1 : (k : Int) < (a * i + c) / m ↔ leastFrom ((k + 1) * m - c) a false ≤ (i : Int) := by
        rw [least_le ap, if_neg (by decide), Int.lt_iff_add_one_le, Int.le_ediv_iff_mul_le hm]
        constructor <;> intro z <;> omega
      by_cases q : (k : Int) < (a * i + c) / m
      · rw [if_pos q, if_pos (h1.mp q)]
      · rw [if_neg q, if_neg fun z => q (h1.mpr z)]
    have km : m ≤ (k + 1) * m := by
      have : 1 * m ≤ (k + 1) * m := Int.mul_le_mul_of_nonneg_right (by omega) (by omega)
      omega
    have kp : (k + 1) * m ≤ p * m := Int.mul_le_mul_of_nonneg_right (by omega) (by omega)
    have pm : (p : Int) * m = m * p := Int.mul_comm _ _
    have Q0 : 0 ≤ leastFrom ((k + 1) * m - c) a false := by
      refine Classical.byContradiction fun z => ?_
      have := (least_le (v := -1) ap).mp (show leastFrom ((k + 1) * m - c) a false ≤ -1 by omega)
      rw [if_neg (by decide)] at this
      omega
    have Q1 : leastFrom ((k + 1) * m - c) a false ≤ n := by
      refine (least_le ap).mpr ?_
      rw [if_neg (by decide)]
      omega
    rw [s2, count_from _ Q0, if_pos Q1]
    unfold leastFrom
    rw [if_neg (by decide)]
    have e : m * j + r = -((k + 1) * m - c) + a * n := by
      have : (k + 1 : Int) * m = (p - j) * m := by rw [show (k : Int) + 1 = p - j by omega]
      have z : (p - j : Int) * m = m * p - m * j := by grind
      omega
    rw [e, Int.add_mul_ediv_left _ _ (by omega)]
    omega
end Lat
set_option Elab.async false
set_option linter.all false
set_option maxRecDepth 100000
set_option maxHeartbeats 1000000
/-! the inverse of a number, places on a line -/
namespace Lat
/-- Euclid's way, with what brings each remainder about -/
structure Euc (m num d r b f : Int) : Prop where
  db : m ∣ d - b * num
  rf : m ∣ r - f * num
  g : Int.gcd d r = 1
  r0 : 0 ≤ r
  rd : r < d
theorem Euc.start {m num : Int} (hm : 0 < m) (h : Int.gcd num m = 1) : Euc m num m (num % m) 0 1 := by
  refine ⟨⟨1, by omega⟩, ⟨-(num / m), ?_⟩, ?_, Int.emod_nonneg _ (by omega), Int.emod_lt_of_pos _ hm⟩
  · have := Int.mul_ediv_add_emod num m
    rw [Int.mul_neg]
    omega
  · have e := Int.mul_ediv_add_emod num m
    rw [show num % m = num - m * (num / m) by omega, Int.gcd_sub_mul_left_right, Int.gcd_comm]
    exact h
theorem Euc.step {m num d r b f : Int} (E : Euc m num d r b f) (hr : r ≠ 0) : Euc m num r (d - d / r * r) f (b - d / r * f) := by
  have rp : 0 < r := by have := E.r0; omega
  have e : d - d / r * r = d % r := by
    have := Int.mul_ediv_add_emod d r
    rw [Int.mul_comm (d / r) r]
    omega
  refine ⟨E.rf, ?_, ?_, ?_, ?_⟩
  · obtain ⟨u, hu⟩ := E.db
    obtain ⟨v, hv⟩ := E.rf
    refine ⟨u - d / r * v, ?_⟩
    have z : d - d / r * r - (b - d / r * f) * num = (d - b * num) - d / r * (r - f * num) := by grind
    rw [z, hu, hv]
    grind
  · rw [Int.gcd_sub_mul_right_right, Int.gcd_comm]
    exact E.g
  · rw [e]
    exact Int.emod_nonneg _ hr
  · rw [e]
    exact Int.emod_lt_of_pos _ rp
theorem Euc.done {m num d b f : Int} (E : Euc m num d 0 b f) : m ∣ 1 - b % m * num := by
  have g := E.g
  rw [Int.gcd_zero_right] at g
  have rd := E.rd
  have d1 : d = 1 := by omega
  obtain ⟨u, hu⟩ := E.db
  rw [d1] at hu
  refine ⟨u + b / m * num, ?_⟩
  have e := Int.mul_ediv_add_emod b m
  have z : b % m = b - m * (b / m) := by omega
  rw [z]
  grind
/-- what bounds the factors -/
structure EucB (m d r b f : Int) : Prop where
  sg : (0 ≤ b ∧ f ≤ 0) ∨ (b ≤ 0 ∧ 0 ≤ f)
  sm : (b.natAbs : Int) * r + (f.natAbs : Int) * d = m
theorem EucB.start {m r : Int} : EucB m m r 0 1 := ⟨.inr ⟨by omega, by omega⟩, by simp⟩
theorem EucB.step {m d r b f : Int} (E : EucB m d r b f) (r0 : 0 < r) (d0 : 0 ≤ d) : EucB m r (d - d / r * r) f (b - d / r * f) := by
  have t0 : 0 ≤ d / r := Int.ediv_nonneg d0 (by omega)
  have sm := E.sm
  rcases E.sg with ⟨h1, h2⟩ | ⟨h1, h2⟩
  · have z : d / r * f ≤ 0 := Int.mul_nonpos_of_nonneg_of_nonpos t0 h2
    refine ⟨.inr ⟨h2, by omega⟩, ?_⟩
    rw [show ((b - d / r * f).natAbs : Int) = b - d / r * f by omega]
    rw [show (b.natAbs : Int) = b by omega, show (f.natAbs : Int) = -f by omega] at sm
    rw [show (f.natAbs : Int) = -f by omega]
    grind
  · have z : 0 ≤ d / r * f := Int.mul_nonneg t0 h2
    refine ⟨.inl ⟨h2, by omega⟩, ?_⟩
    rw [show ((b - d / r * f).natAbs : Int) = -(b - d / r * f) by omega]
    rw [show (b.natAbs : Int) = -b by omega, show (f.natAbs : Int) = f by omega] at sm
    rw [show (f.natAbs : Int) = f by omega]
    grind
theorem EucB.le {m d r b f : Int} (E : EucB m d r b f) (r0 : 0 ≤ r) (d0 : 0 < d) : (f.natAbs : Int) ≤ m := by
  have sm := E.sm
  have z1 : 0 ≤ (b.natAbs : Int) * r := Int.mul_nonneg (by omega) r0
  have z2 : (f.natAbs : Int) * 1 ≤ (f.natAbs : Int) * d := Int.mul_le_mul_of_nonneg_left (by omega) (by omega)
  omega
/-- which heights on a line have a stake -/
theorem on_line {a u v inv y : Int} (h : u ∣ 1 - inv * a) : u ∣ a * y - v ↔ u ∣ y - v * inv := by
  obtain ⟨k, hk⟩ := h
  constructor
  · rintro ⟨x, hx⟩
    refine ⟨k * y + inv * x, ?_⟩
    have e : y - v * inv = (1 - inv * a) * y + inv * (a * y - v) := by grind
    rw [e, hk, hx]
    grind
  · rintro ⟨x, hx⟩
    refine ⟨a * x - k * v, ?_⟩
    have e : a * y - v = a * (y - v * inv) - (1 - inv * a) * v := by grind
    rw [e, hk, hx]
    grind
/-- what leaves the same remainder, from a number on -/
theorem from_rem {u r lo y : Int} (hu : 0 < u) : (lo ≤ y ∧ u ∣ y - r) ↔ ∃ k : Int, 0 ≤ k ∧ y = lo + (r - lo) % u + k * u := by
  have e := Int.mul_ediv_add_emod (r - lo) u
  have m0 := Int.emod_nonneg (r - lo) (show u ≠ 0 by omega)
  have m1 := Int.emod_lt_of_pos (r - lo) hu
  constructor
  · rintro ⟨h1, x, hx⟩
    refine ⟨x + (r - lo) / u, ?_, ?_⟩
    · refine Classical.byContradiction fun z => ?_
      have : u * (x + (r - lo) / u) ≤ u * (-1) := Int.mul_le_mul_of_nonneg_left (by omega) (by omega)
      rw [Int.mul_add] at this
      omega
    · rw [Int.mul_comm, Int.mul_add]
      omega
  · rintro ⟨k, hk, rfl⟩
    have : 0 ≤ k * u := Int.mul_nonneg hk (by omega)
    refine ⟨by omega, k - (r - lo) / u, ?_⟩
    rw [Int.mul_sub, Int.mul_comm u k]
    omega
/-- how many of them there are up to a number -/
theorem to_last {u f last k : Int} (hu : 0 < u) : f + k * u ≤ last ↔ k < (last - f) / u + 1 := by
  rw [Int.lt_add_one_iff, Int.le_ediv_iff_mul_le hu]
  omega
end Lat
set_option Elab.async false
set_option linter.all false
set_option maxRecDepth 100000
set_option maxHeartbeats 1000000
set_option exponentiation.threshold 20000
namespace Fen
open L2
open Hull (P turn Lt)
/-! common divisors -/
theorem g3_dvd (a b c : Int) : g3 a b c ∣ a ∧ g3 a b c ∣ b ∧ g3 a b c ∣ c := by
  have e : ∀ z : Int, ((a.natAbs.gcd b.natAbs).gcd c.natAbs) ∣ z.natAbs → g3 a b c ∣ z := fun z h => Int.natAbs_dvd_natAbs.mp (by show ((((a.natAbs.gcd b.natAbs).gcd c.natAbs : Nat) : Int)).natAbs ∣ z.natAbs; rw [Int.natAbs_natCast]; exact h)
  exact ⟨e a (Nat.dvd_trans (Nat.gcd_dvd_left _ _) (Nat.gcd_dvd_left _ _)), e b (Nat.dvd_trans (Nat.gcd_dvd_left _ _) (Nat.gcd_dvd_right _ _)), e c (Nat.gcd_dvd_right _ _)⟩
theorem g3_pos {a b c : Int} (h : 0 < a) : 0 < g3 a b c := by
  have h1 : 0 < a.natAbs.gcd b.natAbs := Nat.gcd_pos_of_pos_left _ (by omega)
  have h2 : 0 < (a.natAbs.gcd b.natAbs).gcd c.natAbs := Nat.gcd_pos_of_pos_left _ h1
  unfold g3
  omega
theorem g3_mul (a b c : Int) {t : Int} (h : 0 ≤ t) : g3 (a * t) (b * t) (c * t) = g3 a b c * t := by
  unfold g3
  rw [Int.natAbs_mul, Int.natAbs_mul, Int.natAbs_mul, Nat.gcd_mul_right, Nat.gcd_mul_right]
  push_cast
  congr 1
  omega
def gF (b : Int) (cs : List P) : Int := cs.foldl (fun g p => g3 g p.1 p.2) b
theorem gF_pos : ∀ (cs : List P) {b : Int}, 0 < b → 0 < gF b cs
  | [], _, h => h
  | p :: cs, b, h => gF_pos cs (b := g3 b p.1 p.2) (g3_pos h)
theorem gF_dvd : ∀ (cs : List P) (b : Int), gF b cs ∣ b ∧ ∀ p ∈ cs, gF b cs ∣ p.1 ∧ gF b cs ∣ p.2
  | [], b => ⟨Int.dvd_refl b, fun p hp => nomatch hp⟩
  | p :: cs, b => by
    obtain ⟨h1, h2⟩ := gF_dvd cs (g3 b p.1 p.2)
    obtain ⟨k1, k2, k3⟩ := g3_dvd b p.1 p.2
    have e : gF b (p :: cs) = gF (g3 b p.1 p.2) cs := rfl
    rw [e]
    refine ⟨Int.dvd_trans h1 k1, fun q hq => ?_⟩
    rcases List.mem_cons.mp hq with rfl | z
    · exact ⟨Int.dvd_trans h1 k2, Int.dvd_trans h1 k3⟩
    · exact h2 q z
def sc (t : Int) (p : P) : P := (p.1 * t, p.2 * t)
def dv (g : Int) (p : P) : P := (p.1 / g, p.2 / g)
theorem gF_mul : ∀ (cs : List P) (b : Int) {t : Int}, 0 ≤ t → gF (b * t) (cs.map (sc t)) = gF b cs * t
  | [], _, _, _ => rfl
  | p :: cs, b, t, h => by
    show gF (g3 (b * t) (p.1 * t) (p.2 * t)) (cs.map (sc t)) = gF (g3 b p.1 p.2) cs * t
    rw [g3_mul _ _ _ h, gF_mul cs _ h]
theorem gF_le {cs : List P} {b : Int} (h : 0 < b) : gF b cs ≤ b := Int.le_of_dvd h (gF_dvd cs b).1
theorem sc_dv {g : Int} {p : P} (h : g ∣ p.1 ∧ g ∣ p.2) : sc g (dv g p) = p := by
  unfold sc dv
  rw [Int.ediv_mul_cancel h.1, Int.ediv_mul_cancel h.2]
theorem dv_sc {g : Int} (h : g ≠ 0) (p : P) : dv g (sc g p) = p := by
  unfold sc dv
  rw [Int.mul_ediv_cancel _ h, Int.mul_ediv_cancel _ h]
/-- the fence with its lowest bottom -/
def lowB (b : Int) (cs : List P) : Int := b / gF b cs
def lowC (b : Int) (cs : List P) : List P := cs.map (dv (gF b cs))
theorem low_back (b : Int) (cs : List P) : lowB b cs * gF b cs = b ∧ (lowC b cs).map (sc (gF b cs)) = cs := by
  obtain ⟨h1, h2⟩ := gF_dvd cs b
  refine ⟨Int.ediv_mul_cancel h1, ?_⟩
  unfold lowC
  rw [List.map_map]
  refine (List.map_congr_left fun p hp => ?_).trans (List.map_id cs)
  exact sc_dv (h2 p hp)
theorem gF_low {b : Int} (h : 0 < b) (cs : List P) : gF (lowB b cs) (lowC b cs) = 1 := by
  obtain ⟨e1, e2⟩ := low_back b cs
  have gp := gF_pos cs h
  have z := gF_mul (lowC b cs) (lowB b cs) (t := gF b cs) (by omega)
  rw [e1, e2] at z
  have z2 : 1 * gF b cs = gF (lowB b cs) (lowC b cs) * gF b cs := by rw [Int.one_mul]; exact z
  exact (Int.eq_of_mul_eq_mul_right (by omega) z2).symm
/-- lowest again, and of multiples -/
theorem low_mul {b t : Int} {cs : List P} (g1 : gF b cs = 1) (ht : 0 < t) : lowB (b * t) (cs.map (sc t)) = b ∧ lowC (b * t) (cs.map (sc t)) = cs := by
  have e : gF (b * t) (cs.map (sc t)) = t := by rw [gF_mul cs b (by omega), g1, Int.one_mul]
  unfold lowB lowC
  rw [e, Int.mul_ediv_cancel _ (by omega), List.map_map]
  refine ⟨rfl, (List.map_congr_left fun p _ => ?_).trans (List.map_id cs)⟩
  exact dv_sc (by omega) p
theorem low_one {b : Int} {cs : List P} (g1 : gF b cs = 1) : lowB b cs = b ∧ lowC b cs = cs := by
  unfold lowB lowC
  rw [g1, Int.ediv_one]
  refine ⟨rfl, (List.map_congr_left fun p _ => ?_).trans (List.map_id cs)⟩
  unfold dv
  rw [Int.ediv_one, Int.ediv_one]
  rfl
/-! shapes, made greater -/
theorem turn_sc (t : Int) (a b c : P) : turn (sc t a) (sc t b) (sc t c) = t * t * turn a b c := by
  unfold turn sc
  grind
theorem lt_sc {t : Int} (ht : 0 < t) {a b : P} : Lt (sc t a) (sc t b) ↔ Lt a b := by
  unfold Lt sc
  have e : ∀ x y : Int, x * t < y * t ↔ x < y := fun x y => ⟨fun h => Int.lt_of_mul_lt_mul_right h (by omega), fun h => Int.mul_lt_mul_of_pos_right h ht⟩
  have e2 : ∀ x y : Int, x * t = y * t ↔ x = y := fun x y => ⟨fun h => Int.eq_of_mul_eq_mul_right (by omega) h, fun h => by rw [h]⟩
  dsimp only
  rw [e, e, e2]
theorem sc_inj {t : Int} (ht : 0 < t) {a b : P} (h : sc t a = sc t b) : a = b := by
  rw [← dv_sc (show t ≠ 0 by omega) a, h, dv_sc (by omega)]
theorem shape_sc {t : Int} (ht : 0 < t) {cs : List P} : Shape (cs.map (sc t)) ↔ Shape cs := by
  have tt : 0 < t * t := Int.mul_pos ht ht
  unfold Shape
  rw [List.length_map]
  constructor
  · rintro (h | ⟨a, b, e, h⟩ | ⟨h, O⟩)
    · exact .inl h
    · rcases cs with _ | ⟨x, _ | ⟨y, _ | ⟨z, r⟩⟩⟩
      · cases e
      · cases e
      · refine .inr (.inl ⟨x, y, rfl, ?_⟩)
        obtain ⟨e1, e2⟩ := List.cons.inj e
        obtain ⟨e2, _⟩ := List.cons.inj e2
        rw [← e1, ← e2] at h
        exact (lt_sc ht).mp h
      · simp at e
    · refine .inr (.inr ⟨h, ?_, fun i j a b d hi hj ea eb ed n1 n2 => ?_⟩)
      · obtain ⟨m, e0, l⟩ := O.first
        rw [List.getElem?_map] at e0
        obtain ⟨x, ex, rfl⟩ := Option.map_eq_some_iff.mp e0
        exact ⟨x, ex, fun y hy n => (lt_sc ht).mp (l (sc t y) (List.mem_map.mpr ⟨y, hy, rfl⟩) fun z => n (sc_inj ht z))⟩
      · have z := O.left i j (sc t a) (sc t b) (sc t d) (by rw [List.length_map]; exact hi) (by rw [List.length_map]; exact hj) (by rw [List.getElem?_map, ea]; rfl) (by rw [List.length_map, List.getElem?_map, eb]; rfl) (by rw [List.getElem?_map, ed]; rfl) n1 (by rw [List.length_map]; exact n2)
        rw [turn_sc] at z
        exact Int.not_le.mp fun y => by
          have := Int.mul_le_mul_of_nonneg_left y (show 0 ≤ t * t by omega)
          omega
  · rintro (h | ⟨a, b, rfl, h⟩ | ⟨h, O⟩)
    · exact .inl h
    · exact .inr (.inl ⟨sc t a, sc t b, rfl, (lt_sc ht).mpr h⟩)
    · refine .inr (.inr ⟨h, ?_, fun i j a b d hi hj ea eb ed n1 n2 => ?_⟩)
      · obtain ⟨m, e0, l⟩ := O.first
        refine ⟨sc t m, by rw [List.getElem?_map, e0]; rfl, fun y hy n => ?_⟩
        obtain ⟨x, hx, rfl⟩ := List.mem_map.mp hy
        exact (lt_sc ht).mpr (l x hx fun z => n (by rw [z]))
      · rw [List.length_map] at hi hj eb n2
        rw [List.getElem?_map] at ea eb ed
        obtain ⟨x, ex, rfl⟩ := Option.map_eq_some_iff.mp ea
        obtain ⟨y, ey, rfl⟩ := Option.map_eq_some_iff.mp eb
        obtain ⟨z, ez, rfl⟩ := Option.map_eq_some_iff.mp ed
        rw [turn_sc]
        exact Int.mul_pos tt (O.left i j x y z hi hj ex ey ez n1 n2)
theorem tot_map (f : P → P) (cs : List P) : tot (cs.map f) = tot cs := by
  unfold tot
  rw [List.length_map]
theorem IsF.low {b : Int} {cs : List P} {os : List Int} (f : IsF b cs os) : IsF (lowB b cs) (lowC b cs) os := by
  have b0 : 0 < b := by have := f.b1; omega
  have gp := gF_pos cs b0
  obtain ⟨e1, e2⟩ := low_back b cs
  have lb : 0 < lowB b cs := by
    refine Int.not_le.mp fun z => ?_
    have := Int.mul_le_mul_of_nonneg_right z (show 0 ≤ gF b cs by omega)
    omega
  refine ⟨by omega, ?_, by unfold lowC; rw [List.length_map]; exact f.l1, by unfold lowC; rw [List.length_map]; exact f.l2, fun p hp => ?_, ?_, f.up, fun o ho => ?_⟩
  · have h1 : lowB b cs * 1 ≤ lowB b cs * gF b cs := Int.mul_le_mul_of_nonneg_left (by omega) (by omega)
    have := f.b2
    omega
  · obtain ⟨q, hq, rfl⟩ := List.mem_map.mp hp
    obtain ⟨c1, c2, c3, c4⟩ := f.co q hq
    have d : ∀ x : Int, -(10 : Int) ^ 30 ≤ x → x ≤ 10 ^ 30 → -(10 : Int) ^ 30 ≤ x / gF b cs ∧ x / gF b cs ≤ 10 ^ 30 := fun x h1 h2 => by
      refine ⟨?_, ?_⟩
      · refine (Int.le_ediv_iff_mul_le gp).mpr ?_
        have z : -(10 : Int) ^ 30 * gF b cs ≤ -(10 : Int) ^ 30 * 1 := Int.mul_le_mul_of_nonpos_left (by decide) (by omega)
        omega
      · by_cases x0 : 0 ≤ x
        · exact Int.le_trans (Int.ediv_le_self _ x0) h2
        · have z : x / gF b cs < 0 := Int.ediv_neg_of_neg_of_pos (by omega) gp
          exact Int.le_trans (Int.le_of_lt z) (by decide)
    exact ⟨(d _ c1 c2).1, (d _ c1 c2).2, (d _ c3 c4).1, (d _ c3 c4).2⟩
  · have z := f.sh
    rw [← e2] at z
    exact (shape_sc gp).mp z
  · have := f.inn o ho
    unfold lowC
    rw [tot_map]
    exact this
end Fen
set_option Elab.async false
set_option linter.all false
set_option maxRecDepth 100000
set_option maxHeartbeats 1000000
/-! what is judged: a list of corners is that of its own hull just if it is an outline -/
namespace Fen
open Hull (P turn Lt)
noncomputable def B (p : Prop) : Bool := @decide p (Classical.propDecidable p)
theorem B_true {p : Prop} (h : p) : B p = true := by unfold B; exact @decide_eq_true p (Classical.propDecidable p) h
theorem B_false {p : Prop} (h : ¬ p) : B p = false := by unfold B; exact @decide_eq_false p (Classical.propDecidable p) h
theorem B_iff {p : Prop} : B p = true ↔ p := ⟨fun h => Classical.byContradiction fun n => (by rw [B_false n] at h; exact Bool.noConfusion h), B_true⟩
theorem B_congr {p q : Prop} (h : p ↔ q) : B p = B q := by
  by_cases hq : q
  · rw [B_true hq, B_true (h.mpr hq)]
  · rw [B_false hq, B_false fun z => hq (h.mp z)]
theorem Out.nodup {cs : List P} (h3 : 3 ≤ cs.length) (O : Out cs) {i j : Nat} {a : P} (hi : i < cs.length) (hj : j < cs.length) (ei : cs[i]? = some a) (ej : cs[j]? = some a) : i = j := by
  refine Classical.byContradiction fun ne => ?_
  by_cases hn : j = (i + 1) % cs.length
  · have lb : (j + 1) % cs.length < cs.length := Nat.mod_lt _ (by omega)
    have n1 : i ≠ (j + 1) % cs.length := by
      intro z
      by_cases q : i + 1 < cs.length
      · rw [Nat.mod_eq_of_lt q] at hn
        subst hn
        by_cases q2 : i + 1 + 1 < cs.length
        · rw [Nat.mod_eq_of_lt q2] at z
          omega
        · rw [show i + 1 + 1 = cs.length by omega, Nat.mod_self] at z
          omega
      · rw [show i + 1 = cs.length by omega, Nat.mod_self] at hn
        subst hn
        rw [Nat.mod_eq_of_lt (by omega)] at z
        omega
    have z := O.left j i a _ a hj hi ej (List.getElem?_eq_getElem lb) ei ne n1
    rw [Hull.turn_aba] at z
    exact absurd z (Int.lt_irrefl 0)
  · have lb : (i + 1) % cs.length < cs.length := Nat.mod_lt _ (by omega)
    have z := O.left i j a _ a hi hj ei (List.getElem?_eq_getElem lb) ej (fun e => ne e.symm) hn
    rw [Hull.turn_aba] at z
    exact absurd z (Int.lt_irrefl 0)
theorem nodup_le {α : Type} [DecidableEq α] : ∀ (l D : List α), l.Nodup → (∀ x ∈ l, x ∈ D) → l.length ≤ D.length
  | [], _, _, _ => Nat.zero_le _
  | x :: l, D, hn, hs => by
    obtain ⟨n1, n2⟩ := List.nodup_cons.mp hn
    have ih := nodup_le l (D.erase x) n2 fun y hy => (List.mem_erase_of_ne (fun (e : y = x) => n1 (by rw [← e]; exact hy))).mpr (hs y (List.mem_cons_of_mem _ hy))
    have e := List.length_erase_of_mem (hs x List.mem_cons_self)
    have := List.length_pos_of_mem (hs x List.mem_cons_self)
    rw [List.length_cons]
    omega
theorem out_hul {cs s : List P} (h3 : 3 ≤ cs.length) (O : Out cs) (asc : s.Pairwise Lt) (mem : ∀ x, x ∈ s ↔ x ∈ cs) : hul s = cs := by
  obtain ⟨⟨m, e0, least⟩, left⟩ := id O
  have nd : cs.Nodup := by
    refine List.pairwise_iff_getElem.mpr fun i j hi hj hij e => ?_
    have := O.nodup h3 hi hj (List.getElem?_eq_getElem hi) ((List.getElem?_eq_getElem hj).trans (by rw [e]))
    omega
  have ls : 3 ≤ s.length := by
    have z := nodup_le cs s nd fun x hx => (mem x).mpr hx
    omega
  have e : hul s = Hull.hull s := if_neg (by omega)
  rw [e]
  have Y := Hull.poly asc (by omega)
  generalize Hull.hull s = h at Y
  have l2 := Y.two
  obtain ⟨m', f0, f1, f2⟩ := Y.first
  have em : m' = m := by
    have a1 : m' ∈ cs := (mem m').mp (Y.mem m' (List.mem_of_getElem? f0))
    have a2 : m ∈ s := (mem m).mpr (List.mem_of_getElem? e0)
    refine Classical.byContradiction fun ne => ?_
    have b1 := least m' a1 ne
    have b2 : m' = m ∨ Lt m' m := by
      cases s with
      | nil => simp at ls
      | cons x r =>
        have ex : x = m' := Option.some.inj f1
        subst ex
        rcases List.mem_cons.mp a2 with z | z
        · exact .inl z.symm
        · exact .inr ((List.pairwise_cons.mp asc).1 m z)
    rcases b2 with b2 | b2
    · exact ne b2
    · exact b1.asymm b2
  subst em
  have step : ∀ i, cs[i % cs.length]? = h[i % h.length]? := by
    intro i
    induction i with
    | zero => rw [Nat.zero_mod, Nat.zero_mod, e0, f0]
    | succ i ih =>
      have c1 : i % cs.length < cs.length := Nat.mod_lt _ (by omega)
      have c2 : i % h.length < h.length := Nat.mod_lt _ (by omega)
      have c3 : (i % cs.length + 1) % cs.length < cs.length := Nat.mod_lt _ (by omega)
      have c4 : (i % h.length + 1) % h.length < h.length := Nat.mod_lt _ (by omega)
      obtain ⟨a, ea⟩ : ∃ a, cs[i % cs.length]? = some a := ⟨_, List.getElem?_eq_getElem c1⟩
      obtain ⟨b, eb⟩ : ∃ b, cs[(i % cs.length + 1) % cs.length]? = some b := ⟨_, List.getElem?_eq_getElem c3⟩
      obtain ⟨q, eq⟩ : ∃ q, h[(i % h.length + 1) % h.length]? = some q := ⟨_, List.getElem?_eq_getElem c4⟩
      have ea' : h[i % h.length]? = some a := ih.symm.trans ea
      have g1 : h[i % h.length] = a := Option.some.inj ((List.getElem?_eq_getElem c2).symm.trans ea')
      have g2 : h[(i % h.length + 1) % h.length] = q := Option.some.inj ((List.getElem?_eq_getElem c4).symm.trans eq)
      have e1 : (i + 1) % cs.length = (i % cs.length + 1) % cs.length := (Nat.mod_add_mod i cs.length 1).symm
      have e2 : (i + 1) % h.length = (i % h.length + 1) % h.length := (Nat.mod_add_mod i h.length 1).symm
      rw [e1, e2, eb, eq]
      congr 1
      refine Classical.byContradiction fun ne => ?_
      have qc : q ∈ cs := (mem q).mp (Y.mem q (List.mem_of_getElem? eq))
      obtain ⟨j, ej⟩ := List.mem_iff_getElem?.mp qc
      have hj : j < cs.length := (List.getElem?_eq_some_iff.mp ej).1
      have qa : q ≠ a := fun z => by
        have n1 := Y.nodup
        have y := Hull.nodup_inj n1 (i := (i % h.length + 1) % h.length) (j := i % h.length) (hi := c4) (hj := c2) (by rw [g1, g2, z])
        by_cases w : i % h.length + 1 < h.length
        · rw [Nat.mod_eq_of_lt w] at y
          omega
        · rw [show i % h.length + 1 = h.length by omega, Nat.mod_self] at y
          omega
      have t1 := left (i % cs.length) j a b q c1 hj ea eb ej (fun z => qa (by rw [z] at ej; exact Option.some.inj (ej.symm.trans ea))) (fun z => ne (by rw [z] at ej; exact Option.some.inj (eb.symm.trans ej)))
      have t2 := Y.weak (i % h.length) c2 b ((mem b).mpr (List.mem_of_getElem? eb))
      rw [g1, g2] at t2
      have t3 : turn a b q = - turn a q b := by unfold Hull.turn; grind
      omega
  have lh : h.length ≤ cs.length := nodup_le h cs Y.nodup fun x hx => (mem x).mp (Y.mem x hx)
  have lc : cs.length ≤ h.length := by
    refine Classical.byContradiction fun z => ?_
    have s1 := step h.length
    rw [Nat.mod_self, Nat.mod_eq_of_lt (by omega), f0] at s1
    have := O.nodup h3 (show h.length < cs.length by omega) (show 0 < cs.length by omega) s1 e0
    omega
  refine List.ext_getElem? fun i => ?_
  by_cases hi : i < cs.length
  · have z := step i
    rw [Nat.mod_eq_of_lt hi, Nat.mod_eq_of_lt (by omega)] at z
    exact z.symm
  · rw [List.getElem?_eq_none (by omega), List.getElem?_eq_none (by omega)]
theorem shape_iff {cs s : List P} (l1 : 1 ≤ cs.length) (asc : s.Pairwise Lt) (mem : ∀ x, x ∈ s ↔ x ∈ cs) : hul s = cs ↔ Shape cs := by
  have ls : 1 ≤ s.length := by
    obtain ⟨x, hx⟩ : ∃ x, x ∈ cs := List.exists_mem_of_length_pos (by omega)
    exact List.length_pos_of_mem ((mem x).mpr hx)
  constructor
  · intro h
    rw [← h]
    exact (shape_hul asc ls).1
  · rintro (h | ⟨a, b, rfl, h⟩ | ⟨h3, O⟩)
    · obtain ⟨p, rfl⟩ := List.length_eq_one_iff.mp h
      have e : s = [p] := asc_uniq asc (List.pairwise_singleton _ _) mem
      rw [e]
      rfl
    · have e : s = [a, b] := asc_uniq asc (by simp [h]) mem
      rw [e]
      exact hul_few (by simp)
    · exact out_hul h3 O asc mem
end Fen
namespace Fen
open Hull (P turn Lt)
theorem filter_sub {α : Type} {p q : α → Bool} (h : ∀ x, p x = true → q x = true) : ∀ l : List α, (l.filter p).Sublist (l.filter q)
  | [] => List.Sublist.refl _
  | x :: l => by
    have ih := filter_sub h l
    rw [List.filter_cons, List.filter_cons]
    cases hp : p x with
    | true =>
      rw [if_pos rfl, if_pos (h x hp)]
      exact ih.cons₂ x
    | false =>
      rw [if_neg (by simp)]
      split
      · exact ih.cons x
      · exact ih
/-- how many corners are to the left of side i -/
def leftN (cs : List P) (i : Nat) : Nat := (cs.filter fun x => decide (0 < turn (cs.getD i (0, 0)) (cs.getD ((i + 1) % cs.length) (0, 0)) x)).length
theorem out_iff {cs : List P} (h3 : 3 ≤ cs.length) : Out cs ↔ (∀ x ∈ cs, x ≠ cs.getD 0 (0, 0) → Lt (cs.getD 0 (0, 0)) x) ∧ ∀ i, i < cs.length → leftN cs i = cs.length - 2 := by
  have gd : ∀ {i : Nat} {a : P}, cs[i]? = some a → cs.getD i (0, 0) = a := fun {i a} h => by rw [List.getD_eq_getElem?_getD, h]; rfl
  constructor
  · intro O
    obtain ⟨⟨m, e0, least⟩, left⟩ := id O
    rw [gd e0]
    refine ⟨least, fun i hi => ?_⟩
    have lb : (i + 1) % cs.length < cs.length := Nat.mod_lt _ (by omega)
    unfold leftN
    rw [gd (List.getElem?_eq_getElem hi), gd (List.getElem?_eq_getElem lb)]
    exact left_count h3 O hi (List.getElem?_eq_getElem hi) (List.getElem?_eq_getElem lb)
  · rintro ⟨least, cnt⟩
    have z0 : cs[0]? = some cs[0] := List.getElem?_eq_getElem (by omega)
    rw [gd z0] at least
    refine ⟨⟨_, z0, least⟩, fun i j a b d hi hj ea eb ed n1 n2 => ?_⟩
    have lb : (i + 1) % cs.length < cs.length := Nat.mod_lt _ (by omega)
    have ii : i ≠ (i + 1) % cs.length := fun z => by
      by_cases q : i + 1 < cs.length
      · rw [Nat.mod_eq_of_lt q] at z
        omega
      · rw [show i + 1 = cs.length by omega, Nat.mod_self] at z
        omega
    have c := cnt i hi
    unfold leftN at c
    rw [gd ea, gd eb] at c
    refine Classical.byContradiction fun neg => ?_
    have e : cs = (List.range cs.length).map fun j => cs.getD j (0, 0) := by
      refine List.ext_getElem? fun k => ?_
      rw [List.getElem?_map]
      by_cases hk : k < cs.length
      · rw [List.getElem?_range hk, List.getElem?_eq_getElem hk]
        exact congrArg some (gd (List.getElem?_eq_getElem hk)).symm
      · rw [List.getElem?_eq_none (by omega), List.getElem?_eq_none (by rw [List.length_range]; omega)]
        rfl
    have cc : ((List.range cs.length).filter fun j => decide (0 < turn a b (cs.getD j (0, 0)))).length = cs.length - 2 := by
      have y : (cs.filter fun x => decide (0 < turn a b x)).length = (((List.range cs.length).map fun j => cs.getD j (0, 0)).filter fun x => decide (0 < turn a b x)).length := by rw [← e]
      rw [c, List.filter_map, List.length_map] at y
      exact y.symm
    have r2 := range_two hi lb ii
    have sub : ((List.range cs.length).filter fun j => decide (0 < turn a b (cs.getD j (0, 0)))).Sublist ((List.range cs.length).filter fun j => decide (j ≠ i) && decide (j ≠ (i + 1) % cs.length)) := by
      refine filter_sub (fun j hj => ?_) _
      have t := of_decide_eq_true hj
      have n1 : j ≠ i := fun z => by
        rw [z, gd ea, Hull.turn_aba] at t
        exact absurd t (Int.lt_irrefl 0)
      have n2 : j ≠ (i + 1) % cs.length := fun z => by
        rw [z, gd eb, Hull.turn_abb] at t
        exact absurd t (Int.lt_irrefl 0)
      simp [n1, n2]
    have eqq := sub.eq_of_length (by rw [cc, r2])
    have mj : j ∈ (List.range cs.length).filter fun j => decide (j ≠ i) && decide (j ≠ (i + 1) % cs.length) := List.mem_filter.mpr ⟨List.mem_range.mpr hj, by simp [n1, n2]⟩
    rw [← eqq] at mj
    have := (List.mem_filter.mp mj).2
    rw [gd ed] at this
    exact neg (of_decide_eq_true this)
end Fen
set_option Elab.async false
set_option linter.all false
set_option maxRecDepth 100000
set_option maxHeartbeats 2000000
/-! values of any kind: data, an empty dict, a tuple of such; their repr -/
namespace L2
open PySem PySem.Spec PyProof.Rows
/-- data, or an empty dict -/
inductive We (K : PySem.W.Frag) (H : Hp) : V → PyData → Prop
  | d {v : V} {d : PyData} (h : Dp K H v d) (n : d.hasDict = false) : We K H v d
  | e {a : Addr} (h : H a = some (.dK [])) : We K H (.ref a) (.dict [])
inductive WeAll (K : PySem.W.Frag) (H : Hp) : List V → List PyData → Prop
  | nil : WeAll K H [] []
  | cons {v : V} {vs : List V} {d : PyData} {ds : List PyData} : We K H v d → WeAll K H vs ds → WeAll K H (v :: vs) (d :: ds)
/-- one of these, or a tuple of them -/
inductive Wt (K : PySem.W.Frag) (H : Hp) : V → PyData → Prop
  | el {v : V} {d : PyData} (h : We K H v d) : Wt K H v d
  | tup {a : Addr} {xs : List V} {ds : List PyData} (h : SqT K H a xs) (e : WeAll K H xs ds) : Wt K H (.ref a) (.tuple ds)
section
variable {X : Cx} {pins : List (Addr × Obj)} {σ : St} {H : Hp} {s : Shared}
theorem We.reads (I : Inv X pins σ H s) {v : V} {d : PyData} {u : Value} (h : We X.K H v d) (r : RelV v u) : ∃ as, Reads s.heap u d as ∧ (d.hasDict = true → sysModules ∉ as) := by
  cases h with
  | d h n =>
    obtain ⟨as, q⟩ := Dp.reads I d v u h r
    exact ⟨as, q, fun z => by rw [n] at z; cases z⟩
  | e h =>
    obtain rfl : u = Value.ref _ := r
    obtain ⟨_, sm, vs, kv, o, es, ep, ho, xd, hd, _, pr, _⟩ := dk_of I.hok h
    cases kv
    have l0 : es.toList = [] := List.eq_nil_of_length_eq_zero pr.length
    refine ⟨_, Reads.dict ho xd.1 hd (kvs := []) (as := []) (bs := []) (by rw [l0]; exact .nil) (by rw [l0]; exact .nil), fun _ z => ?_⟩
    rcases List.mem_cons.mp z with z | z
    · rw [← z] at sm
      simp at sm
    · exact nomatch z
theorem WeAll.reads (I : Inv X pins σ H s) : ∀ {vs : List V} {ds : List PyData} {us : List Value}, WeAll X.K H vs ds → Vals vs us → PyData.showableAll ds = true → (∀ t ∈ PyData.shownAll ds, t.length ≤ sizeLine) →
    (∃ as, ReadsAll s.heap us ds as) ∧ ∃ bs, ReadAtMost s.heap (PyData.depthAll ds) bs ∧ ReprAllK X.prog X.w bs s.heap (PyData.depthAll ds) us (PyData.shownAll ds)
  | _, _, _, .nil, r, _, _ => by
    cases r
    exact ⟨⟨_, .nil⟩, [], (fun _ h => nomatch h), by simp only [PyData.shownAll]; exact .nil⟩
  | _, _, _, .cons (d := d) (ds := ds) h hs, r, sh, hz => by
    cases r with
    | cons r rs =>
      have sh' : d.showable = true ∧ PyData.showableAll ds = true := by simpa [PyData.showableAll] using sh
      obtain ⟨as, q, hsm⟩ := h.reads I r
      obtain ⟨⟨as2, q2⟩, c2, hb2, k2⟩ := WeAll.reads I hs rs sh'.2 fun t ht => hz t (by simp only [PyData.shownAll]; exact List.mem_cons_of_mem _ ht)
      obtain ⟨c1, hb1, k1⟩ := ReprK.of_reads (prog := X.prog) (w := X.w) q sh'.1 hsm (hz _ (by simp only [PyData.shownAll]; exact List.mem_cons_self ..))
      refine ⟨⟨_, .cons q q2⟩, c1 ++ c2, fun b hm => ?_, ?_⟩
      · rcases List.mem_append.mp hm with z | z
        · obtain ⟨e, es, re, he⟩ := hb1 b z
          exact ⟨e, es, re, by simp only [PyData.depthAll]; omega⟩
        · obtain ⟨e, es, re, he⟩ := hb2 b z
          exact ⟨e, es, re, by simp only [PyData.depthAll]; omega⟩
      · have m1 := (k1.more (as' := c1 ++ c2) fun b hb => List.mem_append_left _ hb).level_le (d' := PyData.depthAll (d :: ds)) (by simp only [PyData.depthAll]; omega)
        have m2 := k2.more_le (as' := c1 ++ c2) (d' := PyData.depthAll (d :: ds)) (fun b hb => List.mem_append_right _ hb) (by simp only [PyData.depthAll]; omega)
        show ReprAllK _ _ _ _ _ _ (d.shown :: PyData.shownAll ds)
        exact .cons m1 m2
/-- what repr asks of a value -/
structure RpW (d : PyData) : Prop where
  sh : d.showable = true
  len : d.shown.length ≤ sizeLine
  dep : d.depth ≤ 20
def rReprW (K : PySem.W.Frag) : List V → Hp → VK → Prop := fun xs H Q => ∃ (v : V) (d : PyData), xs = [v] ∧ Wt K H v d ∧ RpW d ∧ Q (.str d.shown) H
theorem call_reprW {X : Cx} {k : Nat} (hgd : X.A.guards = some []) (hr : Room k X.A) : CallR X (.builtin "repr") (rReprW X.K) := by
  intro pins s σ H xs us Q I r h
  obtain ⟨v, d, rfl, hd, ⟨h1, h3, h4⟩, q⟩ := h
  obtain ⟨u, rfl, ru⟩ := vals1 r
  have hu := hr.un
  have fin : ∀ h' y tk, (∀ b o, s.heap.get? b = some o → h'.get? b = some o) → EP X pins σ Q (.str d.shown y) { s with heap := h', toks := tk } := fun h' y tk k => ⟨.str _, H, I.kept k, ⟨_, rfl⟩, q⟩
  cases hd with
  | el hd =>
    obtain ⟨as, q1, q2⟩ := hd.reads I ru
    cases q1 with
    | none => exact PySem.P.repr_of_none (fin _ _ _ fun _ _ e => e)
    | bool b => exact PySem.P.repr_of_bool (fin _ _ _ fun _ _ e => e)
    | int i t =>
      refine PySem.P.repr_of_int (by simpa [PyData.showable] using h1) (fin _ _ _ fun _ _ e => e)
    | str x t => exact PySem.P.repr_of_str (fin _ _ _ fun _ _ e => e) h3
    | list a b c e => exact PySem.repr_of_reads' (.list a b c e) h1 q2 hgd (by omega) (fun _ _ e => e) fin h3
    | tuple a b c e => exact PySem.repr_of_reads' (.tuple a b c e) h1 q2 hgd (by omega) (fun _ _ e => e) fin h3
    | dict a b c e g => exact PySem.repr_of_reads' (.dict a b c e g) h1 q2 hgd (by omega) (fun _ _ e => e) fin h3
  | tup hT he =>
    rename_i a xs ds
    obtain rfl : u = Value.ref a := ru
    obtain ⟨its, rv, ⟨o, ho, hc, n, hd⟩, _⟩ := I.tuple hT
    have z : (tupleText (PyData.shownAll ds)).length ≤ sizeLine := by simpa only [PyData.shown] using h3
    obtain ⟨⟨as, q1⟩, bs, hb, hk⟩ := he.reads I rv (by simpa [PyData.showable] using h1) fun t ht => Nat.le_trans (tupleText_mem_le ht) z
    have hna : a ∉ bs := not_mem_of_deeper (Reads.tuple ho hc hd q1) (by simp only [PyData.depth]; omega) hb
    simp only [PyData.depth] at h4
    simp only [PyData.shown] at fin
    exact call_repr_slot (by omega) ⟨o, ho, hc⟩ F.slot_tuple_repr (call_tuple_reprK ho hc hd hna hk (A := X.A.in1) hgd (fun b _ => Clear.nil b) (by show X.A.units + 1 + _ < cLine; omega) (fun _ _ e => e) (fun h' y tk k => ⟨_, _, rfl, fin h' y tk k⟩) z)
end
end L2
set_option Elab.async false
set_option linter.all false
set_option maxRecDepth 100000
set_option maxHeartbeats 1000000
set_option exponentiation.threshold 20000
namespace L2
open PySem PySem.Spec PyProof.Rows
/-- the written part named: within a comprehension -/
theorem or_K {X : Cx} {f : Value → Value → Sem Value} {r : PySem.W.Frag → R2} (h : OpR X f (r X.K)) (K : PySem.W.Frag) (hK : X.K = K) : OpR X f (r K) := by
  subst hK
  exact h
/-- a reading that says more -/
theorem PS.of {X : Cx} {st : Stmt} {t : TS} (t' : TS) (h : PS X st t) (hi : ∀ D σ H, t' D σ H → t D σ H) : PS X st t' := ⟨fun pins s σ H D I q => h.run pins s σ H D I (hi D σ H q)⟩
theorem PE.of {X : Cx} {e : Expr} {t : TE} (t' : TE) (h : PE X e t) (hi : ∀ σ H Q, t' σ H Q → t σ H Q) : PE X e t' := ⟨fun pins s σ H Q I q => h.run pins s σ H Q I (hi σ H Q q)⟩
theorem SqT.put {K : PySem.W.Frag} {H H' : Hp} {a p : Addr} {xs l : List V} (h : SqT K H a xs) (hp : H p = some (.lst l)) (s : SameX p H H') : SqT K H' a xs := by
  have n : ∀ o, H a = some o → (∀ l, o ≠ .lst l) → a ≠ p := fun o e z y => by
    rw [y, hp] at e
    exact z l (Option.some.inj e).symm
  rcases h with (h | ⟨o, h⟩) | h
  · exact .inl (.inl (s _ _ (n _ h fun l z => nomatch z) h))
  · exact .inl (.inr ⟨o, s _ _ (n _ h fun l z => nomatch z) h⟩)
  · exact .inr h
end L2
namespace Fen
open PySem PySem.Spec PyProof.Rows L2
/-- a new fence -/
structure NewF (K : PySem.W.Frag) (H0 H : Hp) (t c o : Addr) (b : Int) (ks : Pts) (os : List Int) : Prop where
  nt : H0 t = none
  nc : H0 c = none
  no : H0 o = none
  tup : H t = some (.tup [.int b, .ref c, .ref o])
  cor : H c = some (.lst (refs ks))
  pts : At K H ks
  sid : H o = some (.lst (os.map V.int))
  ap : c ≠ o
theorem NewF.fat {K : PySem.W.Frag} {H0 H : Hp} {t c o : Addr} {b : Int} {ks : Pts} {os : List Int} (f : NewF K H0 H t c o b ks os) : FAt K H t c o b ks os := ⟨SqT.of f.tup, SqL.of f.cor, f.pts, SqL.of f.sid⟩
/-- a fence of lists that were made -/
structure FPl (K : PySem.W.Frag) (H : Hp) (t c o : Addr) (b : Int) (ks : Pts) (os : List Int) : Prop where
  tup : H t = some (.tup [.int b, .ref c, .ref o])
  cor : H c = some (.lst (refs ks))
  pts : At K H ks
  sid : H o = some (.lst (os.map V.int))
theorem FPl.fat {K : PySem.W.Frag} {H : Hp} {t c o : Addr} {b : Int} {ks : Pts} {os : List Int} (f : FPl K H t c o b ks os) : FAt K H t c o b ks os := ⟨SqT.of f.tup, SqL.of f.cor, f.pts, SqL.of f.sid⟩
theorem FPl.same {K : PySem.W.Frag} {H H' : Hp} {t c o : Addr} {b : Int} {ks : Pts} {os : List Int} (f : FPl K H t c o b ks os) (s : Same H H') : FPl K H' t c o b ks os := ⟨s _ _ f.tup, s _ _ f.cor, f.pts.same s, s _ _ f.sid⟩
theorem NewF.pl {K : PySem.W.Frag} {H0 H : Hp} {t c o : Addr} {b : Int} {ks : Pts} {os : List Int} (f : NewF K H0 H t c o b ks os) : FPl K H t c o b ks os := ⟨f.tup, f.cor, f.pts, f.sid⟩
theorem NewF.same {K : PySem.W.Frag} {H0 H H' : Hp} {t c o : Addr} {b : Int} {ks : Pts} {os : List Int} (f : NewF K H0 H t c o b ks os) (s : Same H H') : NewF K H0 H' t c o b ks os := ⟨f.nt, f.nc, f.no, s _ _ f.tup, s _ _ f.cor, f.pts.same s, s _ _ f.sid, f.ap⟩
theorem NewF.old {K : PySem.W.Frag} {H1 H0 H : Hp} {t c o : Addr} {b : Int} {ks : Pts} {os : List Int} (f : NewF K H0 H t c o b ks os) (s : Same H1 H0) : NewF K H1 H t c o b ks os := ⟨s.free f.nt, s.free f.nc, s.free f.no, f.tup, f.cor, f.pts, f.sid, f.ap⟩
def rI (n : Nat) : List Int := (List.range n).map fun (i : Nat) => (i : Int)
theorem rgV_rI (n : Nat) : rgV 0 (n : Int) = (rI n).map V.int := by
  unfold rgV rI
  rw [List.map_map, show ((n : Int) - 0).toNat = n by omega]
  refine List.map_congr_left fun i _ => ?_
  show V.int (0 + (i : Int)) = V.int (i : Int)
  rw [Int.zero_add]
theorem rI_up (n : Nat) : (rI n).Pairwise (· < ·) := by
  unfold Fen.rI
  rw [List.pairwise_map]
  exact List.Pairwise.imp (fun {a b} h => by omega) (List.pairwise_lt_range (n := n))
theorem rI_in {n : Nat} {o : Int} (h : o ∈ rI n) : 0 ≤ o ∧ o < n := by
  unfold Fen.rI at h
  obtain ⟨i, hi, rfl⟩ := List.mem_map.mp h
  have := List.mem_range.mp hi
  omega
/-- the other sides -/
def otherS (n : Nat) (os : List Int) : List Int := (rI n).filter fun i => !os.contains i
end Fen
namespace Fen
open PySem PySem.Spec PyProof.Rows L2
/-- within the range of corners -/
def Co (p : Hull.P) : Prop := -(10 : Int) ^ 30 ≤ p.1 ∧ p.1 ≤ 10 ^ 30 ∧ -(10 : Int) ^ 30 ≤ p.2 ∧ p.2 ≤ 10 ^ 30
theorem Co.sm {p : Hull.P} (h : Co p) : Sm p := by
  obtain ⟨a, b, c, d⟩ := h
  have e : (10 : Int) ^ 30 < 2 ^ 210 := by decide
  have e2 : ((2 : Int) ^ 210) = ((2 ^ 210 : Nat) : Int) := by decide
  unfold Sm
  generalize hL : (10 : Int) ^ 30 = L at *
  rw [e2] at e
  generalize (2 : Nat) ^ 210 = M at *
  omega
structure Nms (mg : Str → Option Value) : Prop where
  mii : mg "isinstance" = none
  mint : mg "int" = none
  mbool : mg "bool" = none
  mtup : mg "tuple" = none
  mlst : mg "list" = none
  mlen : mg "len" = none
  menum : mg "enumerate" = none
  lim : ∃ t, mg "LIMIT" = some (.int (10 ^ 30) t)
  gb : ∃ t, mg "GREATEST_BOTTOM" = some (.int 30 t)
  mc : ∃ t, mg "MOST_CORNERS" = some (.int 10 t)
structure Nm2 (mg : Str → Option Value) : Prop where
  mmin : mg "min" = none
  mmax : mg "max" = none
  mzip : mg "zip" = none
  mall : mg "all" = none
  mrange : mg "range" = none
  mabs : mg "abs" = none
  msum : mg "sum" = none
  mrepr : mg "repr" = none
  msorted : mg "sorted" = none
theorem kit_ii {K : PySem.W.Frag} : PySem.W.kitOne K (.type "int") (.type "int") = some true := kit_ty (by decide +kernel)
theorem kit_ib {K : PySem.W.Frag} : PySem.W.kitOne K (.type "int") (.type "bool") = some false := kit_ty (by decide +kernel)
theorem kit_tt {K : PySem.W.Frag} : PySem.W.kitOne K (.type "tuple") (.type "tuple") = some true := kit_ty (by decide +kernel)
theorem kit_ll {K : PySem.W.Frag} : PySem.W.kitOne K (.type "list") (.type "list") = some true := kit_ty (by decide +kernel)
end Fen
namespace Fen
open PySem PySem.Spec PyProof.Rows L2
theorem asc_nodup {s : List Hull.P} (h : s.Pairwise Hull.Lt) : s.Nodup := h.imp fun l => l.ne
theorem hul_len {s D : List Hull.P} (h : s.Pairwise Hull.Lt) (h1 : 1 ≤ s.length) (hs : ∀ x ∈ s, x ∈ D) : (hul s).length ≤ D.length := by
  refine nodup_le _ _ ?_ fun x hx => hs x ((shape_hul h h1).2.2 x hx)
  by_cases e : s.length = 1
  · rw [show hul s = s from if_pos e]
    exact asc_nodup h
  · rw [show hul s = Hull.hull s from if_neg e]
    exact (Hull.poly h (by omega)).nodup
/-- another list is written -/
theorem FAt.upd {K : PySem.W.Frag} {H H' : Hp} {t c o w : Addr} {b : Int} {ks : Pts} {os : List Int} {l : List V} (f : FAt K H t c o b ks os) (hw : H w = some (.lst l)) (s : SameX w H H') (cw : c ≠ w) (ow : o ≠ w) : FAt K H' t c o b ks os := by
  have sq : ∀ {a : Addr} {xs : List V}, a ≠ w → SqL K H a xs → SqL K H' a xs := fun {a xs} n h => by
    rcases h with (h | ⟨u, h⟩) | h
    · exact .inl (.inl (s _ _ n h))
    · exact .inl (.inr ⟨u, s _ _ n h⟩)
    · exact .inr h
  exact ⟨L2.SqT.put f.tup hw s, sq cw f.cor, fun p hp => L2.SqT.put (f.pts p hp) hw s, sq ow f.sid⟩
theorem eqv_pt_eq {p q : Hull.P} (h : PyData.eqv (ptD p) (ptD q) = true) : p = q := by
  obtain ⟨a, b⟩ := p
  obtain ⟨c, d⟩ := q
  simp [ptD, PyData.eqv, PyData.eqvAll] at h
  rw [h.1, h.2]
theorem eqv_ptsAll : ∀ {ps qs : List Hull.P}, PyData.eqvAll (ps.map ptD) (qs.map ptD) = true → ps = qs
  | [], [], _ => rfl
  | [], _ :: _, h => by simp [PyData.eqvAll] at h
  | _ :: _, [], h => by simp [PyData.eqvAll] at h
  | p :: ps, q :: qs, h => by
    rw [List.map_cons, List.map_cons] at h
    simp only [PyData.eqvAll, Bool.and_eq_true] at h
    rw [eqv_pt_eq h.1, eqv_ptsAll h.2]
theorem eqv_pts_eq {ps qs : List Hull.P} (h : PyData.eqv (ptsD ps) (ptsD qs) = true) : ps = qs := by
  refine eqv_ptsAll ?_
  simpa [ptsD, PyData.eqv] using h
theorem getD_snd {ks : Pts} {i : Nat} {p : Addr × Hull.P} (h : ks[i]? = some p) : (ks.map (·.2)).getD i (0, 0) = p.2 := by rw [List.getD_eq_getElem?_getD, List.getElem?_map, h] <;> rfl
end Fen
set_option Elab.async false
set_option linter.all false
set_option maxRecDepth 100000
set_option maxHeartbeats 1000000
/-! values of any kind: their types and parts -/
namespace Fen
open PySem PySem.Spec PyProof.Rows L2
def tyD : PyData → Value
  | .none => .type "NoneType"
  | .bool _ => .type "bool"
  | .int _ => .type "int"
  | .str _ => .type "str"
  | .list _ => .type "list"
  | .tuple _ => .type "tuple"
  | .dict _ => .type "dict"
theorem ty_w {K : PySem.W.Frag} {H : Hp} {v : V} {d : PyData} (h : Wt K H v d) : TyX K H v (tyD d) := by
  cases h with
  | el h =>
    cases h with
    | d h _ =>
      cases h with
      | non => exact .base .non
      | bl b => exact .base (.bl b)
      | int i => exact .base (.int i)
      | str x => exact .base (.str x)
      | lst hs _ => exact ty_lst hs
      | tup hs _ => exact ty_tup hs
    | e h => exact .base (.dK h)
  | tup h _ => exact ty_tup h
def isIn : PyData → Bool
  | .int _ => true
  | .bool _ => true
  | _ => false
def isBo : PyData → Bool
  | .bool _ => true
  | _ => false
def isTu : PyData → Bool
  | .tuple _ => true
  | _ => false
def isLi : PyData → Bool
  | .list _ => true
  | _ => false
theorem kit_in {K : PySem.W.Frag} (d : PyData) : PySem.W.kitOne K (tyD d) (.type "int") = some (isIn d) := by
  cases d <;> first | exact kit_ty (r := true) (by decide +kernel) | exact kit_ty (r := false) (by decide +kernel)
theorem kit_bo {K : PySem.W.Frag} (d : PyData) : PySem.W.kitOne K (tyD d) (.type "bool") = some (isBo d) := by
  cases d <;> first | exact kit_ty (r := true) (by decide +kernel) | exact kit_ty (r := false) (by decide +kernel)
theorem kit_tu {K : PySem.W.Frag} (d : PyData) : PySem.W.kitOne K (tyD d) (.type "tuple") = some (isTu d) := by
  cases d <;> first | exact kit_ty (r := true) (by decide +kernel) | exact kit_ty (r := false) (by decide +kernel)
theorem kit_li {K : PySem.W.Frag} (d : PyData) : PySem.W.kitOne K (tyD d) (.type "list") = some (isLi d) := by
  cases d <;> first | exact kit_ty (r := true) (by decide +kernel) | exact kit_ty (r := false) (by decide +kernel)
theorem we_all {K : PySem.W.Frag} {H : Hp} : ∀ {vs : List V} {ds : List PyData}, DpAll K H vs ds → PyData.hasDictAll ds = false → WeAll K H vs ds
  | _, _, .nil, _ => .nil
  | _, _, .cons h hs, n => by
    simp only [PyData.hasDictAll, Bool.or_eq_false_iff] at n
    exact .cons (.d h n.1) (we_all hs n.2)
theorem tup_w {K : PySem.W.Frag} {H : Hp} {v : V} {ds : List PyData} (h : Wt K H v (.tuple ds)) : ∃ a xs, v = .ref a ∧ SqT K H a xs ∧ WeAll K H xs ds := by
  cases h with
  | el h =>
    cases h with
    | d h n =>
      cases h with
      | tup hs ha => exact ⟨_, _, rfl, hs, we_all ha (by simpa [PyData.hasDict] using n)⟩
  | tup h e => exact ⟨_, _, rfl, h, e⟩
theorem lst_w {K : PySem.W.Frag} {H : Hp} {v : V} {ds : List PyData} (h : Wt K H v (.list ds)) : ∃ a xs, v = .ref a ∧ SqL K H a xs ∧ DpAll K H xs ds ∧ PyData.hasDictAll ds = false := by
  cases h with
  | el h =>
    cases h with
    | d h n =>
      cases h with
      | lst hs ha => exact ⟨_, _, rfl, hs, ha, by simpa [PyData.hasDict] using n⟩
theorem int_w {K : PySem.W.Frag} {H : Hp} {v : V} {i : Int} (h : Wt K H v (.int i)) : v = .int i := by
  cases h with
  | el h =>
    cases h with
    | d h _ =>
      cases h
      rfl
end Fen
namespace L2
open PySem PySem.Spec PyProof.Rows
theorem WeAll.len {K : PySem.W.Frag} {H : Hp} : ∀ {vs : List V} {ds : List PyData}, WeAll K H vs ds → vs.length = ds.length
  | _, _, .nil => rfl
  | _, _, .cons _ h => congrArg Nat.succ h.len
theorem DpAll.len {K : PySem.W.Frag} {H : Hp} : ∀ {vs : List V} {ds : List PyData}, DpAll K H vs ds → vs.length = ds.length
  | _, _, .nil => rfl
  | _, _, .cons _ h => congrArg Nat.succ (DpAll.len h)
theorem DpAll.at {K : PySem.W.Frag} {H : Hp} : ∀ {vs : List V} {ds : List PyData} {i : Nat} {v : V}, DpAll K H vs ds → PyData.hasDictAll ds = false → vs[i]? = some v → ∃ d, ds[i]? = some d ∧ Dp K H v d ∧ d.hasDict = false
  | _, _, 0, _, .cons h hs, n, e => by
    simp only [PyData.hasDictAll, Bool.or_eq_false_iff] at n
    obtain rfl := Option.some.inj e
    exact ⟨_, rfl, h, n.1⟩
  | _, _, i + 1, _, .cons h hs, n, e => by
    simp only [PyData.hasDictAll, Bool.or_eq_false_iff] at n
    exact DpAll.at (i := i) hs n.2 (by simpa using e)
/-- what a heap that grew leaves -/
theorem Dp.same {K : PySem.W.Frag} {H H' : Hp} (s : Same H H') : ∀ {d : PyData} {v : V}, Dp K H v d → Dp K H' v d := by
  have key : ∀ n, (∀ d : PyData, sizeOf d < n → ∀ v, Dp K H v d → Dp K H' v d) := by
    intro n
    induction n with
    | zero => intro d h; omega
    | succ n ih =>
      intro d hd v h
      have all : ∀ ds : List PyData, sizeOf ds < n + 1 → ∀ vs, DpAll K H vs ds → DpAll K H' vs ds := by
        intro ds
        induction ds with
        | nil =>
          intro _ vs h
          cases h
          exact .nil
        | cons d ds ihl =>
          intro hz vs h
          cases h with
          | cons h1 h2 =>
            simp only [List.cons.sizeOf_spec] at hz
            exact .cons (ih d (by omega) _ h1) (ihl (by omega) _ h2)
      cases h with
      | non => exact .non
      | bl b => exact .bl b
      | int i => exact .int i
      | str x => exact .str x
      | lst hs ha =>
        simp only [PyData.list.sizeOf_spec] at hd
        exact .lst (s.seq hs) (all _ (by omega) _ ha)
      | tup hs ha =>
        simp only [PyData.tuple.sizeOf_spec] at hd
        exact .tup (s.seqT hs) (all _ (by omega) _ ha)
  intro d v h
  exact key _ d (Nat.lt_succ_self _) v h
theorem We.same {K : PySem.W.Frag} {H H' : Hp} {v : V} {d : PyData} (h : We K H v d) (s : Same H H') : We K H' v d := by
  cases h with
  | d h n => exact .d (Dp.same s h) n
  | e h => exact .e (s _ _ h)
theorem WeAll.same {K : PySem.W.Frag} {H H' : Hp} (s : Same H H') : ∀ {vs : List V} {ds : List PyData}, WeAll K H vs ds → WeAll K H' vs ds
  | _, _, .nil => .nil
  | _, _, .cons h hs => .cons (h.same s) (WeAll.same s hs)
theorem Wt.same {K : PySem.W.Frag} {H H' : Hp} {v : V} {d : PyData} (h : Wt K H v d) (s : Same H H') : Wt K H' v d := by
  cases h with
  | el h => exact .el (h.same s)
  | tup h e => exact .tup (s.seqT h) (e.same s)
end L2
set_option Elab.async false
set_option linter.all false
set_option maxRecDepth 100000
set_option maxHeartbeats 1000000
set_option exponentiation.threshold 20000
namespace L2
open PySem PySem.Spec PyProof.Rows
/-- one parameter, given by its name -/
def KwOne (K : PySem.W.Frag) (fd : FuncData) (nm : Str) : Prop := ∀ (s : Shared) (u : Value), K.In s.heap → BindsTo s fd ⟨[], [(nm, u)]⟩ [(nm, u)]
section
variable {X : Cx} {CX : CXT} {k : Nat} {f : Addr} {fd : FuncData} {nm : Str} {sp : Sp} {E : XK} {x : Str} {p pos kpos : Pos} {e : Expr} {te : TE}
/-- f(name=e) and nothing else -/
theorem pe_callN (F : FnOk X.prog X.w X.K X.mg X.base CX k f fd [nm] sp) (hr : Room k X.A) (hg : Gl X x) (hm : X.mg x = some (.ref f)) (hk : PySem.W.keepIn X.K (.ref f) = true) (hb : KwOne X.K fd nm) (hx : Passes CX X E)
    (he : PE X e te) (hdb : (x == ("__debug__" : Str)) = false := by decide) : PE X (.Call (.Name x p) [] [⟨some nm, e, kpos⟩] pos) (tCall sp [] E (tCons te tNil)) := by
  refine ⟨fun pins s σ H Q I h => ?_⟩
  refine wpAny_Call_Name_kw (ld_glob I hg hm ?_ hdb)
  have hall : (backToKw pos (keywordEach [⟨some nm, e, kpos⟩] X.env)).all (·.1.isSome) = true := by rfl
  refine PySem.W.callWith_KW0 (h₀ := X.base) (env := X.env) (kws := [⟨some nm, e, kpos⟩]) (pos := pos) I.ok.mod.kin hk hall ?_
  have hkw : PK X [⟨some nm, e, kpos⟩] (tCons te tNil) := pk_cons he pk_nil
  refine thn (hkw.run pos pins s σ H (fun vs H1 => sp (vs ++ []) H1 Q E) I h) fun us s1 ⟨vs, H1, I1, r1, q1⟩ => ?_
  refine ⟨I1.kIn, ?_⟩
  have hl : us.length = 1 := by
    have : (vs ++ []).length = 1 := F.len _ _ _ _ q1
    rw [List.append_nil] at this
    rw [← r1.length]
    exact this
  obtain ⟨u, rfl⟩ : ∃ u, us = [u] := by
    rcases us with _ | ⟨u, _ | ⟨v, r⟩⟩
    · simp at hl
    · exact ⟨u, rfl⟩
    · simp at hl
  have q2 : sp vs H1 Q E := by
    have q3 : sp (vs ++ []) H1 Q E := q1
    rw [List.append_nil] at q3
    exact q3
  show wpAny _ _ (call (.ref f) [] [(nm, u)]) _ _ _
  refine wpAny_call (codeAny_mono (F.run X.A X.stack s1 H1 ⟨[], [(nm, u)]⟩ [u] vs Q E hr I1.env0 (hb s1 u I1.kIn) r1 q2) fun r s' hq => ?_)
  cases r with
  | error e => exact hx pins σ H1 s1 e s' I1 hq
  | ok fl =>
    cases fl with
    | ret u => exact I1.after hq
    | next => exact False.elim hq
    | brk => exact False.elim hq
    | cont => exact False.elim hq
end
/-- a def that is called -/
structure Cal (P : Program) (w : World) (K : PySem.W.Frag) (mg : Str → Option Value) (base : Heap) (k : Nat) (x : Str) (f : Addr) (fd : FuncData) (ps : List Str) (sp : Sp) : Prop where
  ok : FnOk P w K mg base CX0 k f fd ps sp
  kp : PySem.W.keepIn K (.ref f) = true
  bi : L2.Binds K fd ps []
  mt : mg x = some (.ref f)
structure CalG (P : Program) (w : World) (K : PySem.W.Frag) (mg : Str → Option Value) (base : Heap) (k : Nat) (x : Str) (f : Addr) (fd : FuncData) (ps : List Str) (sp : Sp) : Prop where
  ok : FnG P w K mg base CX0 k f fd ps sp
  kp : PySem.W.keepIn K (.ref f) = true
  bi : L2.Binds K fd ps []
  mt : mg x = some (.ref f)
section
variable {X : Cx} {k : Nat} {f : Addr} {fd : FuncData} {ps : List Str} {nm : Str} {sp : Sp} {x : Str} {p pos kpos : Pos} {e : Expr} {es : List Expr} {t : TA} {te : TE}
theorem pe_cal (C : Cal X.prog X.w X.K X.mg X.base k x f fd ps sp) (hr : Room k X.A) (ha : PA X (e :: es) t) (hg : Gl X x := by rfl) (hdb : (x == ("__debug__" : Str)) = false := by decide)
    (he : starEach (e :: es) X.env = (false, eval e X.env) :: starEach es X.env := by rfl) (hpl : (backTo pos (starEach es X.env)).any (·.1) = false := by rfl) : PE X (.Call (.Name x p) (e :: es) [] pos) (tCall sp [] E0 t) :=
  pe_call C.ok hr hg C.mt C.kp C.bi .nil pass0 ha hdb he hpl
theorem pe_calG (C : CalG X.prog X.w X.K X.mg X.base k x f fd ps sp) (hgd : X.A.guards = some []) (hr : Room k X.A) (ha : PA X (e :: es) t) (hg : Gl X x := by rfl) (hdb : (x == ("__debug__" : Str)) = false := by decide)
    (he : starEach (e :: es) X.env = (false, eval e X.env) :: starEach es X.env := by rfl) (hpl : (backTo pos (starEach es X.env)).any (·.1) = false := by rfl) : PE X (.Call (.Name x p) (e :: es) [] pos) (tCall sp [] E0 t) :=
  pe_callG C.ok hgd hr hg C.mt C.kp C.bi .nil pass0 ha hdb he hpl
theorem pe_calN (C : Cal X.prog X.w X.K X.mg X.base k x f fd [nm] sp) (hn : KwOne X.K fd nm) (hr : Room k X.A) (he : PE X e te) (hg : Gl X x := by rfl) (hdb : (x == ("__debug__" : Str)) = false := by decide) : PE X (.Call (.Name x p) [] [⟨some nm, e, kpos⟩] pos) (tCall sp [] E0 (tCons te tNil)) :=
  pe_callN C.ok hr hg C.mt C.kp hn pass0 he hdb
end
end L2
namespace L2
open PySem PySem.Spec PyProof.Rows
theorem WeAll.at {K : PySem.W.Frag} {H : Hp} : ∀ {vs : List V} {ds : List PyData} {i : Nat} {v : V}, WeAll K H vs ds → vs[i]? = some v → ∃ d, ds[i]? = some d ∧ We K H v d
  | _, _, 0, _, .cons h hs, e => by
    obtain rfl := Option.some.inj e
    exact ⟨_, rfl, h⟩
  | _, _, i + 1, _, .cons h hs, e => WeAll.at (i := i) hs (by simpa using e)
end L2
namespace Fen
open PySem PySem.Spec PyProof.Rows L2
theorem otherS_up (n : Nat) (os : List Int) : (otherS n os).Pairwise (· < ·) := (rI_up n).filter _
theorem mem_rI {n : Nat} {x : Int} : x ∈ rI n ↔ 0 ≤ x ∧ x < n := by
  unfold Fen.rI
  rw [List.mem_map]
  constructor
  · rintro ⟨i, hi, rfl⟩
    have := List.mem_range.mp hi
    omega
  · intro h
    exact ⟨x.toNat, List.mem_range.mpr (by omega), by omega⟩
theorem mem_other {n : Nat} {os : List Int} {x : Int} : x ∈ otherS n os ↔ (0 ≤ x ∧ x < n) ∧ x ∉ os := by
  unfold otherS
  rw [List.mem_filter, mem_rI]
  simp
theorem up_uniq : ∀ {l m : List Int}, l.Pairwise (· < ·) → m.Pairwise (· < ·) → (∀ x, x ∈ l ↔ x ∈ m) → l = m
  | [], [], _, _, _ => rfl
  | [], y :: m, _, _, h => absurd ((h y).mpr List.mem_cons_self) (by simp)
  | x :: l, [], _, _, h => absurd ((h x).mp List.mem_cons_self) (by simp)
  | x :: l, y :: m, hl, hm, h => by
    obtain ⟨l1, l2⟩ := List.pairwise_cons.mp hl
    obtain ⟨m1, m2⟩ := List.pairwise_cons.mp hm
    have e : x = y := by
      rcases List.mem_cons.mp ((h x).mp List.mem_cons_self) with z | z
      · exact z
      · rcases List.mem_cons.mp ((h y).mpr List.mem_cons_self) with z2 | z2
        · exact z2.symm
        · have := m1 x z
          have := l1 y z2
          omega
    subst e
    congr 1
    refine up_uniq l2 m2 fun z => ?_
    constructor
    · intro hz
      rcases List.mem_cons.mp ((h z).mp (List.mem_cons_of_mem _ hz)) with rfl | q
      · exact absurd (l1 z hz) (Int.lt_irrefl z)
      · exact q
    · intro hz
      rcases List.mem_cons.mp ((h z).mpr (List.mem_cons_of_mem _ hz)) with rfl | q
      · exact absurd (m1 z hz) (Int.lt_irrefl z)
      · exact q
/-- [side for side in range(many) if side in sides] is sides just if they ascend and are of the sides -/
theorem in_sides {n : Nat} {os : List Int} : (rI n).filter (fun i => os.contains i) = os ↔ os.Pairwise (· < ·) ∧ ∀ o ∈ os, 0 ≤ o ∧ o < n := by
  constructor
  · intro h
    rw [← h]
    exact ⟨(rI_up n).filter _, fun o ho => rI_in (List.mem_filter.mp ho).1⟩
  · rintro ⟨up, inn⟩
    refine up_uniq ((rI_up n).filter _) up fun x => ?_
    rw [List.mem_filter, mem_rI]
    constructor
    · rintro ⟨_, h⟩
      simpa using h
    · intro h
      exact ⟨inn x h, by simpa using h⟩
theorem ones_nil (n : Nat) : PyData.eqv (.list (List.replicate n (.int 1))) (.list []) = decide (n = 0) := by
  cases n with
  | zero => rfl
  | succ n => rw [List.replicate_succ]; rfl
theorem dp_ones {K : PySem.W.Frag} {H : Hp} : ∀ n, DpAll K H (List.replicate n (V.int 1)) (List.replicate n (PyData.int 1))
  | 0 => .nil
  | n + 1 => .cons (.int 1) (dp_ones n)
theorem shaped_ones (n : Nat) : SeqAt.shaped (.list (List.replicate n (.int 1))) = true := by
  have h : ∀ n : Nat, PyData.canLayAll0 (List.replicate n (.int 1)) = true ∧ PyData.depthAll (List.replicate n (.int 1)) ≤ 1 := by
    intro n
    induction n with
    | zero => exact ⟨rfl, by decide⟩
    | succ n ih => exact ⟨by rw [List.replicate_succ]; simp [PyData.canLayAll0, PyData.canLay0, ih.1], by rw [List.replicate_succ]; simp only [PyData.depthAll, PyData.depth]; omega⟩
  unfold SeqAt.shaped
  simp only [PyData.canLay0, PyData.depth, (h n).1, Bool.true_and]
  exact decide_eq_true (by have := (h n).2; omega)
theorem shaped_intl (ns : List Int) : SeqAt.shaped (.list (ns.map PyData.int)) = true := by
  unfold SeqAt.shaped
  simp only [PyData.canLay0, PyData.depth, (ints_lay ns).1, Bool.true_and]
  exact decide_eq_true (by have := (ints_lay ns).2; omega)
theorem eqv_ints : ∀ {l m : List Int}, PyData.eqvAll (l.map PyData.int) (m.map PyData.int) = true → l = m
  | [], [], _ => rfl
  | [], _ :: _, h => by simp [PyData.eqvAll] at h
  | _ :: _, [], h => by simp [PyData.eqvAll] at h
  | x :: l, y :: m, h => by
    rw [List.map_cons, List.map_cons] at h
    simp only [PyData.eqvAll, Bool.and_eq_true] at h
    have e : x = y := by simpa [PyData.eqv] using h.1
    rw [e, eqv_ints h.2]
/-- how many of data are no such -/
noncomputable def noN (p : PyData → Prop) (ds : List PyData) : Nat := (ds.filter fun x => !B (p x)).length
theorem noN_zero {p : PyData → Prop} {ds : List PyData} : noN p ds = 0 ↔ ∀ x ∈ ds, p x := by
  unfold noN
  rw [List.length_eq_zero_iff, List.filter_eq_nil_iff]
  constructor
  · intro h x hx
    refine Classical.byContradiction fun n => h x hx ?_
    rw [B_false n]
    rfl
  · intro h x hx
    rw [B_true (h x hx)]
    simp
theorem noN_snoc (p : PyData → Prop) (ds : List PyData) (x : PyData) : noN p (ds ++ [x]) = noN p ds + if B (p x) then 0 else 1 := by
  unfold noN
  rw [List.filter_append, List.length_append, List.filter_cons, List.filter_nil]
  cases h : B (p x) <;> rfl
theorem noN_le (p : PyData → Prop) (ds : List PyData) : noN p ds ≤ ds.length := List.length_filter_le _ _
end Fen
set_option Elab.async false
set_option linter.all false
set_option maxRecDepth 100000
set_option maxHeartbeats 1000000
set_option exponentiation.threshold 20000
namespace K12
open PySem PySem.Spec PyProof.Rows L2 Fen
abbrev sCkS : Stmt := topS 25
abbrev sLea : Stmt := topS 28
abbrev sGrt : Stmt := topS 29
abbrev sInv : Stmt := topS 30
abbrev sEon : Stmt := topS 35
abbrev sRea : Stmt := topS 36
theorem scCkS : FnScope ["value"] ["value"] (defScope sCkS) := ⟨rfl, rfl, rfl, by decide +kernel, rfl, by decide +kernel, by decide +kernel⟩
theorem scLea : FnScope ["top", "bottom", "beyond"] ["top", "bottom", "beyond"] (defScope sLea) := ⟨rfl, rfl, rfl, by decide +kernel, rfl, by decide +kernel, by decide +kernel⟩
theorem scGrt : FnScope ["top", "bottom", "beyond"] ["top", "bottom", "beyond"] (defScope sGrt) := ⟨rfl, rfl, rfl, by decide +kernel, rfl, by decide +kernel, by decide +kernel⟩
abbrev nInv : List Str := ["number", "modulus", "divisor", "rest", "before", "factor", "times"]
theorem scInv : FnScope nInv ["number", "modulus"] (defScope sInv) := ⟨rfl, rfl, rfl, by decide +kernel, rfl, by decide +kernel, by decide +kernel⟩
theorem scEon : FnScope ["least", "greatest"] ["least", "greatest"] (defScope sEon) := ⟨rfl, rfl, rfl, by decide +kernel, rfl, by decide +kernel, by decide +kernel⟩
theorem scRea : FnScope ["line", "row", "across", "up", "bound"] ["line", "row"] (defScope sRea) := ⟨rfl, rfl, rfl, by decide +kernel, rfl, by decide +kernel, by decide +kernel⟩
section
variable {P : Program} {w : World} {K : PySem.W.Frag} {mg : Str → Option Value} {base : Heap}
def spCkS : Sp := fun vs H Q _ => ∃ i : Int, vs = [.int i] ∧ 1 ≤ i ∧ i ≤ 10 ^ 30 ∧ Q .non H
theorem ok_ckS {f fB : Addr} {fd fdB : FuncData} {k : Nat} (F : Fun K "check_size" "check_size" sCkS f fd) (T : Nms mg) (CB : Cal P w K mg base (k + 1) "is_between" fB fdB ["value", "least", "greatest"] spBet) : FnOk P w K mg base CX0 (k + 1 + 1) f fd ["value"] spCkS := by
  obtain ⟨t, lim⟩ := T.lim
  refine F.ok scCkS (fun vs H Q E h => ?_) (fun cdv A outer s H vs Q E hr h => ?_)
  · obtain ⟨i, rfl, _⟩ := h
    rfl
  · obtain ⟨i, rfl, h1, h2, q⟩ := h
    refine ⟨_, pss_one (ps_if (pt_not (pt_val (pe_cal CB hr (pa_cons (pv 0) (pa_cons pe_int (pa_cons (pe_glob (v := .int (10 ^ 30)) (by rfl) lim ⟨_, rfl⟩) pa_nil)))))) (pss_one ps_no) pss_nil), ?_⟩
    refine ⟨_, rfl, i, 1, 10 ^ 30, rfl, h1, h2, true, rfl, ?_⟩
    exact iteF q
def spLea : Sp := fun vs H Q _ => ∃ (top b : Int) (o : Bool), vs = [.int top, .int b, .bl o] ∧ 0 < b ∧ b.natAbs < 2 ^ 4000 ∧ Q (.int (Lat.leastFrom top b o)) H
theorem ok_lea {f : Addr} {fd : FuncData} {k : Nat} (F : Fun K "least_from" "least_from" sLea f fd) : FnOk P w K mg base CX0 (k + 1) f fd ["top", "bottom", "beyond"] spLea := by
  refine F.ok scLea (fun vs H Q E h => ?_) (fun cdv A outer s H vs Q E hr h => ?_)
  · obtain ⟨top, b, o, rfl, _⟩ := h
    rfl
  · obtain ⟨top, b, o, rfl, b0, b1, q⟩ := h
    refine ⟨_, pss_cons (ps_if (pt_val (pv 2)) (pss_one (ps_ret (pe_op op_add (pe_op op_fdivW (pv 0) (pv 1)) pe_int))) pss_nil)
      (pss_one (ps_ret (pe_un un_neg (pe_op op_fdivW (pe_un un_neg (pv 0)) (pv 1))))), ?_⟩
    have dv : ∀ x : Int, CDivW x b := fun x => wide_div b0 b1 (by decide) (by decide)
    refine ⟨_, rfl, o, rfl, ?_⟩
    cases o with
    | true => exact iteT ⟨_, rfl, _, rfl, _, _, rfl, rfl, dv _, _, _, rfl, rfl, q⟩
    | false => exact iteF ⟨_, rfl, _, rfl, _, rfl, _, _, rfl, rfl, dv _, _, rfl, q⟩
def spGrt : Sp := fun vs H Q _ => ∃ (top b : Int) (o : Bool), vs = [.int top, .int b, .bl o] ∧ 0 < b ∧ b.natAbs < 2 ^ 4000 ∧ Q (.int (Lat.greatestTo top b o)) H
theorem ok_grt {f fL : Addr} {fd fdL : FuncData} {k : Nat} (F : Fun K "greatest_to" "greatest_to" sGrt f fd) (CL : Cal P w K mg base (k + 1) "least_from" fL fdL ["top", "bottom", "beyond"] spLea) : FnOk P w K mg base CX0 (k + 1 + 1) f fd ["top", "bottom", "beyond"] spGrt := by
  refine F.ok scGrt (fun vs H Q E h => ?_) (fun cdv A outer s H vs Q E hr h => ?_)
  · obtain ⟨top, b, o, rfl, _⟩ := h
    rfl
  · obtain ⟨top, b, o, rfl, b0, b1, q⟩ := h
    refine ⟨_, pss_one (ps_ret (pe_un un_neg (pe_cal CL hr (pa_cons (pe_un un_neg (pv 0)) (pa_cons (pv 1) (pa_cons (pv 2) pa_nil)))))), ?_⟩
    exact ⟨_, rfl, _, rfl, _, rfl, _, rfl, -top, b, o, rfl, b0, b1, _, rfl, q⟩
def spEon (K : PySem.W.Frag) : Sp := fun vs H Q _ => ∃ i j : Int, vs = [.int i, .int j] ∧ (j < i → Q .non H) ∧ (i ≤ j → ∀ p, H p = none → Q (.ref p) (upd H p (.tup [.int i, .int j])))
theorem ok_eon {f : Addr} {fd : FuncData} {k : Nat} (F : Fun K "ends_or_none" "ends_or_none" sEon f fd) : FnOk P w K mg base CX0 (k + 1) f fd ["least", "greatest"] (spEon K) := by
  refine F.ok scEon (fun vs H Q E h => ?_) (fun cdv A outer s H vs Q E hr h => ?_)
  · obtain ⟨i, j, rfl, _⟩ := h
    rfl
  · obtain ⟨i, j, rfl, q1, q2⟩ := h
    refine ⟨_, pss_cons (ps_if (pt_cmpR op_gt (pv 0) (pv 1) (nomark _)) (pss_one (ps_ret pe_non)) pss_nil) (pss_one (ps_ret (pe_tup (pa_cons (pv 0) (pa_cons (pv 1) pa_nil))))), ?_⟩
    refine ⟨_, rfl, _, rfl, _, _, rfl, rfl, _, rfl, ite2 (fun d => ?_) (fun d => ?_)⟩
    · exact q1 (of_decide_eq_true d)
    · have d1 : ¬ j < i := fun z => d (decide_eq_true z)
      exact ⟨_, rfl, _, rfl, by show 2 ≤ sizeLine; decide, fun p np => q2 (by omega) p np⟩
end
end K12
set_option Elab.async false
set_option linter.all false
set_option maxRecDepth 100000
set_option maxHeartbeats 1000000
set_option exponentiation.threshold 20000
namespace K12
open PySem PySem.Spec PyProof.Rows L2 Fen
section
variable {P : Program} {w : World} {K : PySem.W.Frag} {mg : Str → Option Value} {base : Heap}
def spInv : Sp := fun vs H Q _ => ∃ num m : Int, vs = [.int num, .int m] ∧ 0 < m ∧ m.natAbs < 2 ^ 4000 ∧ Int.gcd num m = 1 ∧ ∀ H' r : _, (m ∣ 1 - r * num) → 0 ≤ r → r < m → Same H H' → Q (.int r) H'
theorem ok_inv {f : Addr} {fd : FuncData} {k : Nat} (F : Fun K "inverse_of" "inverse_of" sInv f fd) : FnOk P w K mg base CX0 (k + 1) f fd ["number", "modulus"] spInv := by
  refine F.ok scInv (fun vs H Q E h => ?_) (fun cdv A outer s H vs Q E hr h => ?_)
  · obtain ⟨num, m, rfl, _⟩ := h
    rfl
  · obtain ⟨num, m, rfl, m0, mb, g, q⟩ := h
    refine ⟨_, pss_cons (ps_par (i := 2) (j := 3) rfl scInv.nd rfl rfl (by decide) rfl rfl (pa_cons (pv 1) (pa_cons (pe_op op_mod (pv 0) (pv 1)) pa_nil)) (by rfl))
      (pss_cons (ps_asg (pe_tup (pa_cons pe_int (pa_cons pe_int pa_nil))) (pg_tup rfl (pgs_cons (pg_name (i := 4) scInv.nd rfl (.inl rfl)) (pgs_cons (pg_name (i := 5) scInv.nd rfl (.inl rfl)) pgs_nil))))
      (pss_cons (ps_while PassesOwn.never (pt_cmpR op_ne (pv 3) pe_int (nomark _))
        (pss_cons (ps_set (i := 6) scInv.nd rfl (.inl rfl) (pe_op op_fdivW (pv 2) (pv 3)))
        (pss_cons (ps_par (i := 2) (j := 3) rfl scInv.nd rfl rfl (by decide) rfl rfl (pa_cons (pv 3) (pa_cons (pe_op op_sub (pv 2) (pe_op op_mulW (pv 6) (pv 3))) pa_nil)) (by rfl))
        (pss_one (ps_par (i := 4) (j := 5) rfl scInv.nd rfl rfl (by decide) rfl rfl (pa_cons (pv 5) (pa_cons (pe_op op_sub (pv 4) (pe_op op_mulW (pv 6) (pv 5))) pa_nil)) (by rfl))))))
      (pss_one (ps_ret (pe_op op_mod (pv 4) (pv 1)))))), ?_⟩
    refine ⟨_, rfl, _, rfl, _, rfl, _, _, rfl, rfl, m0, _, _, rfl, ?_⟩
    refine ⟨by show 2 ≤ sizeLine; decide, fun t nt => ?_⟩
    refine ⟨t, _, rfl, SqT.of upd_same, rfl, .int 0, [.int 1], rfl, .int 1, [], rfl, rfl, ?_⟩
    have s1 := same_new (o := .tup [.int 0, .int 1]) nt
    generalize upd H t (.tup [.int 0, .int 1]) = H1 at s1 ⊢
    refine while_by (fun σ H' => ∃ d r b f y6, σ = [some (.int num), some (.int m), some (.int d), some (.int r), some (.int b), some (.int f), y6] ∧ H' = H1 ∧ Lat.Euc m num d r b f ∧ Lat.EucB m d r b f ∧ d ≤ m) (fun (σ : L2.St) _ => match σ[3]? with | some (some (V.int r)) => r.natAbs | _ => 0) ⟨m, num % m, 0, 1, none, rfl, rfl, .start m0 g, .start, Int.le_refl _⟩ ?_ ?_
    · rintro σ H' ⟨d, r, b, f, y6, rfl, rfl, E1, E2, dm⟩
      have r0 := E1.r0
      have rd := E1.rd
      refine ⟨_, rfl, rfl, _, rfl, ite2 (fun e => ?_) (fun e => ?_)⟩
      · have rn : r ≠ 0 := fun z => by
          rw [z] at e
          simp at e
        have rp : 0 < r := by omega
        have rb : r.natAbs < 2 ^ 4000 := Nat.lt_of_le_of_lt (by omega) mb
        have fb : f.natAbs < 2 ^ 4000 := Nat.lt_of_le_of_lt (by have := E2.le r0 (by omega); omega) mb
        have t0 : 0 ≤ d / r := Int.ediv_nonneg (by omega) (by omega)
        have td : d / r ≤ d := Int.ediv_le_self _ (by omega)
        have tb : (d / r).natAbs < 2 ^ 4000 := Nat.lt_of_le_of_lt (by omega) mb
        refine ⟨_, rfl, _, rfl, _, _, rfl, rfl, wide_div rp rb (by decide) (by decide), ?_⟩
        refine ⟨_, rfl, _, rfl, _, rfl, _, rfl, _, _, rfl, rfl, wide_mul tb rb (by decide) (by decide) (by decide), _, _, rfl, rfl, _, _, rfl, ?_⟩
        refine ⟨_, rfl, _, rfl, _, rfl, _, rfl, _, _, rfl, rfl, wide_mul tb fb (by decide) (by decide) (by decide), _, _, rfl, rfl, _, _, rfl, ?_⟩
        refine ⟨⟨_, _, _, _, _, rfl, rfl, E1.step rn, E2.step rp (by omega), by omega⟩, ?_⟩
        have z1 := (E1.step rn).r0
        have z2 := (E1.step rn).rd
        show (d - d / r * r).natAbs < r.natAbs
        omega
      · have rz : r = 0 := by
          refine Classical.byContradiction fun z => e ?_
          rw [decide_eq_false (fun y => z (V.int.inj y))]
          rfl
        subst rz
        exact ⟨_, rfl, _, rfl, _, _, rfl, rfl, m0, q _ _ E1.done (Int.emod_nonneg _ (by omega)) (Int.emod_lt_of_pos _ m0) s1⟩
    · rintro σ H' Q1 Q2 hq ⟨x, e, rx, z⟩
      exact ⟨x, e, rx, z.imp fun c hc => ⟨hc.1, hq _ _ hc.2⟩⟩
def spRea (K : PySem.W.Frag) : Sp := fun vs H Q _ => ∃ (a : Addr) (ac up bd row : Int), vs = [.ref a, .int row] ∧ SqT K H a [.int ac, .int up, .int bd] ∧ ac ≠ 0 ∧ ac.natAbs < 2 ^ 4000 ∧ up.natAbs < 2 ^ 4000 ∧ row.natAbs < 2 ^ 4000 ∧ Q (.int (Lat.reach ac up bd row)) H
theorem ok_rea {f : Addr} {fd : FuncData} {k : Nat} (F : Fun K "reach" "reach" sRea f fd) (ma : mg "abs" = none) : FnOk P w K mg base CX0 (k + 1) f fd ["line", "row"] (spRea K) := by
  refine F.ok scRea (fun vs H Q E h => ?_) (fun cdv A outer s H vs Q E hr h => ?_)
  · obtain ⟨a, ac, up, bd, row, rfl, _⟩ := h
    rfl
  · obtain ⟨a, ac, up, bd, row, rfl, hT, a0, ab, ub, rb, q⟩ := h
    refine ⟨_, pss_cons (ps_asg (pv 0) (pg_tup rfl (pgs_cons (pg_name (i := 2) scRea.nd rfl (.inl rfl)) (pgs_cons (pg_name (i := 3) scRea.nd rfl (.inl rfl)) (pgs_cons (pg_name (i := 4) scRea.nd rfl (.inl rfl)) pgs_nil)))))
      (pss_one (ps_ret (pe_op op_fdivW (pe_op op_sub (pe_op op_mulW (pv 3) (pv 1)) (pv 4)) (pe_callB call_abs (by rfl) ma (by decide +kernel) (pa_cons (pv 2) pa_nil))))), ?_⟩
    refine ⟨.ref a, rfl, a, _, rfl, hT, rfl, .int ac, [.int up, .int bd], rfl, .int up, [.int bd], rfl, .int bd, [], rfl, rfl, ?_⟩
    have e : (if ac < 0 then -ac else ac) = (ac.natAbs : Int) := by split <;> omega
    refine ⟨_, rfl, _, rfl, _, _, rfl, rfl, wide_mul ub rb (by decide) (by decide) (by decide), _, rfl, _, _, rfl, rfl, _, rfl, _, rfl, _, _, rfl, rfl, ?_, ?_⟩
    · rw [e]
      exact wide_div (by omega) (by rw [Int.natAbs_natCast]; exact ab) (by decide) (by decide)
    · rw [e]
      exact q
end
end K12
set_option Elab.async false
set_option linter.all false
set_option maxRecDepth 100000
set_option maxHeartbeats 1000000
/-! which sides bind the row of a field between two neighbouring heights of corners; whole numbers on a line -/
namespace Geo
open Hull (P turn Lt)
open Fen (Out)
/-- how far left of the way from t * a to t * b a place is, divided by t -/
def ff (t : Int) (a b : P) (x y : Int) : Int := (b.1 - a.1) * (y - t * a.2) - (b.2 - a.2) * (x - t * a.1)
theorem ff_turn (t : Int) (a b : P) (x y : Int) : turn (t * a.1, t * a.2) (t * b.1, t * b.2) (x, y) = t * ff t a b x y := by
  unfold turn ff
  grind
theorem ff_right (t : Int) (a b c d : P) (x y : Int) : (d.2 - c.2) * ff t a b x y = (t * d.2 - y) * turn a b c + (y - t * c.2) * turn a b d + (b.2 - a.2) * ff t c d x y := by
  unfold turn ff
  grind
/-- a place right at or left of a side that leads up is strictly left of each other side that does not lead down -/
theorem right_binds {t x y : Int} {a b c d : P} (h1 : t * c.2 < y) (h2 : y < t * d.2) (ht : 0 < t) (tc : 0 ≤ turn a b c) (td : 0 ≤ turn a b d) (st : 0 < turn a b c ∨ 0 < turn a b d) (up : 0 ≤ b.2 - a.2) (f : 0 ≤ ff t c d x y) : 0 < ff t a b x y := by
  have hh : 0 < d.2 - c.2 := by
    refine Classical.byContradiction fun n => ?_
    have : t * d.2 ≤ t * c.2 := Int.mul_le_mul_of_nonneg_left (by omega) (by omega)
    omega
  have e := ff_right t a b c d x y
  have z1 : 0 ≤ (t * d.2 - y) * turn a b c := Int.mul_nonneg (by omega) tc
  have z2 : 0 ≤ (y - t * c.2) * turn a b d := Int.mul_nonneg (by omega) td
  have z3 : 0 ≤ (b.2 - a.2) * ff t c d x y := Int.mul_nonneg up f
  have z4 : 0 < (t * d.2 - y) * turn a b c ∨ 0 < (y - t * c.2) * turn a b d := st.imp (fun h => Int.mul_pos (by omega) h) fun h => Int.mul_pos (by omega) h
  have : 0 < (d.2 - c.2) * ff t a b x y := by rw [e]; omega
  exact Int.pos_of_mul_pos_right this hh
theorem left_binds {t x y : Int} {a b c d : P} (h1 : t * d.2 < y) (h2 : y < t * c.2) (ht : 0 < t) (tc : 0 ≤ turn a b c) (td : 0 ≤ turn a b d) (st : 0 < turn a b c ∨ 0 < turn a b d) (dn : b.2 - a.2 ≤ 0) (f : 0 ≤ ff t c d x y) : 0 < ff t a b x y := by
  have hh : 0 < c.2 - d.2 := by
    refine Classical.byContradiction fun n => ?_
    have : t * c.2 ≤ t * d.2 := Int.mul_le_mul_of_nonneg_left (by omega) (by omega)
    omega
  have e := ff_right t a b c d x y
  have z1 : 0 ≤ (y - t * d.2) * turn a b c := Int.mul_nonneg (by omega) tc
  have z2 : 0 ≤ (t * c.2 - y) * turn a b d := Int.mul_nonneg (by omega) td
  have z3 : 0 ≤ (a.2 - b.2) * ff t c d x y := Int.mul_nonneg (by omega) f
  have z4 : 0 < (y - t * d.2) * turn a b c ∨ 0 < (t * c.2 - y) * turn a b d := st.imp (fun h => Int.mul_pos (by omega) h) fun h => Int.mul_pos (by omega) h
  have : 0 < (c.2 - d.2) * ff t a b x y := by
    have e2 : (c.2 - d.2) * ff t a b x y = (y - t * d.2) * turn a b c + (t * c.2 - y) * turn a b d + (a.2 - b.2) * ff t c d x y := by
      unfold turn ff
      grind
    rw [e2]
    omega
  exact Int.pos_of_mul_pos_right this hh
section
variable {cs : List P} {i r : Nat} {a b c d : P}
theorem nx_lt (h3 : 3 ≤ cs.length) (i : Nat) : (i + 1) % cs.length < cs.length := Nat.mod_lt _ (by omega)
theorem nx_ne (h3 : 3 ≤ cs.length) {i : Nat} (hi : i < cs.length) : (i + 1) % cs.length ≠ i := fun z => by
  by_cases q : i + 1 < cs.length
  · rw [Nat.mod_eq_of_lt q] at z
    omega
  · rw [show i + 1 = cs.length by omega, Nat.mod_self] at z
    omega
theorem nx_two (h3 : 3 ≤ cs.length) {i r : Nat} (hi : i < cs.length) (hr : r < cs.length) (h1 : r = (i + 1) % cs.length) (h2 : (r + 1) % cs.length = i) : False := by
  by_cases q : i + 1 < cs.length
  · rw [Nat.mod_eq_of_lt q] at h1
    by_cases w : r + 1 < cs.length
    · rw [Nat.mod_eq_of_lt w] at h2
      omega
    · rw [show r + 1 = cs.length by omega, Nat.mod_self] at h2
      omega
  · rw [show i + 1 = cs.length by omega, Nat.mod_self] at h1
    rw [h1, Nat.mod_eq_of_lt (by omega)] at h2
    omega
/-- of two sides, the ends of the one are not right of the other, and one of them is left of it -/
theorem ends_left (h3 : 3 ≤ cs.length) (O : Out cs) (hi : i < cs.length) (hr : r < cs.length) (n : r ≠ i) (ea : cs[i]? = some a) (eb : cs[(i + 1) % cs.length]? = some b) (ec : cs[r]? = some c) (ed : cs[(r + 1) % cs.length]? = some d) :
    0 ≤ turn a b c ∧ 0 ≤ turn a b d ∧ (0 < turn a b c ∨ 0 < turn a b d) := by
  have any : ∀ j x, j < cs.length → cs[j]? = some x → 0 ≤ turn a b x ∧ (j ≠ i → j ≠ (i + 1) % cs.length → 0 < turn a b x) := fun j x hj ex => by
    by_cases h1 : j = i
    · subst h1
      have : x = a := Option.some.inj (ex.symm.trans ea)
      subst this
      exact ⟨by rw [Hull.turn_aba]; omega, fun z => absurd rfl z⟩
    by_cases h2 : j = (i + 1) % cs.length
    · subst h2
      have : x = b := Option.some.inj (ex.symm.trans eb)
      subst this
      exact ⟨by rw [show turn a x x = 0 by unfold turn; grind]; omega, fun _ z => absurd rfl z⟩
    · have := O.left i j a b x hi hj ea eb ex h1 h2
      exact ⟨by omega, fun _ _ => this⟩
  obtain ⟨c1, c2⟩ := any r c hr ec
  obtain ⟨d1, d2⟩ := any _ d (nx_lt h3 r) ed
  refine ⟨c1, d1, ?_⟩
  by_cases h : r = (i + 1) % cs.length
  · right
    refine d2 (fun z => nx_two h3 hi hr h z) fun z => ?_
    rw [← h] at z
    exact nx_ne h3 hr z
  · exact .inl (c2 n h)
/-- between two heights, with no corner between, the side up and the side down bind -/
theorem two_bind {t x y : Int} {r l : Nat} {cR dR cL dL : P} (h3 : 3 ≤ cs.length) (O : Out cs) (ht : 0 < t) (hr : r < cs.length) (hl : l < cs.length) (er : cs[r]? = some cR) (er' : cs[(r + 1) % cs.length]? = some dR) (el : cs[l]? = some cL) (el' : cs[(l + 1) % cs.length]? = some dL)
    (r1 : t * cR.2 < y) (r2 : y < t * dR.2) (l1 : t * dL.2 < y) (l2 : y < t * cL.2) (fR : 0 ≤ ff t cR dR x y) (fL : 0 ≤ ff t cL dL x y) :
    ∀ i a b, i < cs.length → cs[i]? = some a → cs[(i + 1) % cs.length]? = some b → i ≠ r → i ≠ l → 0 < ff t a b x y := fun i a b hi ea eb n1 n2 => by
  by_cases up : 0 ≤ b.2 - a.2
  · obtain ⟨q1, q2, q3⟩ := ends_left h3 O hi hr (Ne.symm n1) ea eb er er'
    exact right_binds r1 r2 ht q1 q2 q3 up fR
  · obtain ⟨q1, q2, q3⟩ := ends_left h3 O hi hl (Ne.symm n2) ea eb el el'
    exact left_binds l1 l2 ht q1 q2 q3 (by omega) fL
end
end Geo
set_option Elab.async false
set_option linter.all false
set_option maxRecDepth 100000
set_option maxHeartbeats 1000000
namespace Geo
open Hull (P turn Lt)
open Fen (Out)
/-- somewhere on the way around, what held no longer holds -/
theorem around {α : Type} {cs : List α} (A : α → Prop) {i j : Nat} {x y : α} (ei : cs[i]? = some x) (ej : cs[j]? = some y) (hx : A x) (hy : ¬ A y) : ∃ r c d, r < cs.length ∧ cs[r]? = some c ∧ cs[(r + 1) % cs.length]? = some d ∧ A c ∧ ¬ A d := by
  have li : i < cs.length := (List.getElem?_eq_some_iff.mp ei).1
  have lj : j < cs.length := (List.getElem?_eq_some_iff.mp ej).1
  refine Classical.byContradiction fun no => ?_
  have all : ∀ k, ∃ c, cs[(i + k) % cs.length]? = some c ∧ A c := fun k => by
    induction k with
    | zero => exact ⟨x, by rw [Nat.add_zero, Nat.mod_eq_of_lt li]; exact ei, hx⟩
    | succ k ih =>
      obtain ⟨c, ec, hc⟩ := ih
      have l1 : (i + k) % cs.length < cs.length := Nat.mod_lt _ (by omega)
      have l2 : ((i + k) % cs.length + 1) % cs.length < cs.length := Nat.mod_lt _ (by omega)
      have e : (i + (k + 1)) % cs.length = ((i + k) % cs.length + 1) % cs.length := (Nat.mod_add_mod (i + k) cs.length 1).symm
      rw [e]
      obtain ⟨d, ed⟩ : ∃ d, cs[((i + k) % cs.length + 1) % cs.length]? = some d := ⟨_, List.getElem?_eq_getElem l2⟩
      refine ⟨d, ed, Classical.byContradiction fun nd => no ⟨_, c, d, l1, ec, ed, hc, nd⟩⟩
  obtain ⟨c, ec, hc⟩ := all (cs.length - i + j)
  rw [show i + (cs.length - i + j) = j + cs.length by omega, Nat.add_mod_right, Nat.mod_eq_of_lt lj, ej] at ec
  cases ec
  exact hy hc
/-- above a top corner two sides don't agree -/
theorem top_bound {t x y : Int} {a b e : P} (ab : a.2 ≤ b.2) (eb : e.2 ≤ b.2) (tu : 0 < turn a b e) (f1 : 0 ≤ ff t a b x y) (f2 : 0 ≤ ff t b e x y) : y ≤ t * b.2 := by
  refine Classical.byContradiction fun n => ?_
  have z1 : 0 ≤ (b.2 - e.2) * ff t a b x y := Int.mul_nonneg (by omega) f1
  have z2 : 0 ≤ (b.2 - a.2) * ff t b e x y := Int.mul_nonneg (by omega) f2
  have z3 : 0 < (y - t * b.2) * turn a b e := Int.mul_pos (by omega) tu
  have e : (b.2 - e.2) * ff t a b x y + (b.2 - a.2) * ff t b e x y = - ((y - t * b.2) * turn a b e) := by
    unfold turn ff
    grind
  omega
theorem low_bound {t x y : Int} {a b e : P} (ab : b.2 ≤ a.2) (eb : b.2 ≤ e.2) (tu : 0 < turn a b e) (f1 : 0 ≤ ff t a b x y) (f2 : 0 ≤ ff t b e x y) : t * b.2 ≤ y := by
  refine Classical.byContradiction fun n => ?_
  have z1 : 0 ≤ (e.2 - b.2) * ff t a b x y := Int.mul_nonneg (by omega) f1
  have z2 : 0 ≤ (a.2 - b.2) * ff t b e x y := Int.mul_nonneg (by omega) f2
  have z3 : 0 < (t * b.2 - y) * turn a b e := Int.mul_pos (by omega) tu
  have e : (e.2 - b.2) * ff t a b x y + (a.2 - b.2) * ff t b e x y = - ((t * b.2 - y) * turn a b e) := by
    unfold turn ff
    grind
  omega
/-- whether a place belongs to a field grown to t, side by side; the place is times the bottom -/
def InF (t : Int) (cs : List P) (os : List Int) (x y : Int) : Prop := ∀ i a b, i < cs.length → cs[i]? = some a → cs[(i + 1) % cs.length]? = some b → 0 ≤ ff t a b x y ∧ ((i : Int) ∈ os → 0 < ff t a b x y)
theorem InF.heights {t x y : Int} {cs : List P} {os : List Int} (h3 : 3 ≤ cs.length) (O : Out cs) (ht : 0 ≤ t) (h : InF t cs os x y) : (∀ m, (∀ c ∈ cs, c.2 ≤ m) → y ≤ t * m) ∧ (∀ m, (∀ c ∈ cs, m ≤ c.2) → t * m ≤ y) := by
  have prev : ∀ k b, cs[k]? = some b → ∃ i a e, i < cs.length ∧ k < cs.length ∧ cs[i]? = some a ∧ (i + 1) % cs.length = k ∧ cs[(k + 1) % cs.length]? = some e ∧ 0 < turn a b e := fun k b ek => by
    have lk : k < cs.length := (List.getElem?_eq_some_iff.mp ek).1
    have lp : (k + (cs.length - 1)) % cs.length < cs.length := Nat.mod_lt _ (by omega)
    have en : ((k + (cs.length - 1)) % cs.length + 1) % cs.length = k := by
      rw [Nat.mod_add_mod, show k + (cs.length - 1) + 1 = k + cs.length by omega, Nat.add_mod_right, Nat.mod_eq_of_lt lk]
    refine ⟨_, _, _, lp, lk, List.getElem?_eq_getElem lp, en, List.getElem?_eq_getElem (nx_lt h3 k), ?_⟩
    refine O.left _ _ _ _ _ lp (nx_lt h3 k) (List.getElem?_eq_getElem lp) (by rw [en]; exact ek) (List.getElem?_eq_getElem (nx_lt h3 k)) (fun z => ?_) (by rw [en]; exact nx_ne h3 lk)
    exact nx_two h3 lp lk en.symm z
  have both : ∀ k b, cs[k]? = some b → ∃ a e, a ∈ cs ∧ e ∈ cs ∧ 0 < turn a b e ∧ 0 ≤ ff t a b x y ∧ 0 ≤ ff t b e x y := fun k b ek => by
    obtain ⟨i, a, e, li, lk, ea, en, ee, tu⟩ := prev k b ek
    exact ⟨a, e, List.mem_of_getElem? ea, List.mem_of_getElem? ee, tu, (h i a b li ea (by rw [en]; exact ek)).1, (h k b e lk ek ee).1⟩
  constructor
  · intro m hm
    -- a corner as high as any
    obtain ⟨b, hb, mx⟩ : ∃ b ∈ cs, ∀ c ∈ cs, c.2 ≤ b.2 := by
      have : ∀ l : List P, l ≠ [] → ∃ b ∈ l, ∀ c ∈ l, c.2 ≤ b.2 := fun l => by
        induction l with
        | nil => exact fun z => absurd rfl z
        | cons c l ih =>
          intro _
          by_cases hl : l = []
          · subst hl
            exact ⟨c, List.mem_cons_self, fun d hd => by rw [List.mem_singleton.mp hd]; omega⟩
          · obtain ⟨b, hb, mb⟩ := ih hl
            by_cases q : c.2 ≤ b.2
            · exact ⟨b, List.mem_cons_of_mem _ hb, fun d hd => (List.mem_cons.mp hd).elim (fun z => by rw [z]; exact q) (mb d)⟩
            · exact ⟨c, List.mem_cons_self, fun d hd => (List.mem_cons.mp hd).elim (fun z => by rw [z]; omega) fun z => by have := mb d z; omega⟩
      exact this cs fun z => by rw [z] at h3; simp at h3
    obtain ⟨k, ek⟩ := List.mem_iff_getElem?.mp hb
    obtain ⟨a, e, ha, he, tu, f1, f2⟩ := both k b ek
    have z := top_bound (mx a ha) (mx e he) tu f1 f2
    have := Int.mul_le_mul_of_nonneg_left (hm b hb) ht
    omega
  · intro m hm
    obtain ⟨b, hb, mx⟩ : ∃ b ∈ cs, ∀ c ∈ cs, b.2 ≤ c.2 := by
      have : ∀ l : List P, l ≠ [] → ∃ b ∈ l, ∀ c ∈ l, b.2 ≤ c.2 := fun l => by
        induction l with
        | nil => exact fun z => absurd rfl z
        | cons c l ih =>
          intro _
          by_cases hl : l = []
          · subst hl
            exact ⟨c, List.mem_cons_self, fun d hd => by rw [List.mem_singleton.mp hd]; omega⟩
          · obtain ⟨b, hb, mb⟩ := ih hl
            by_cases q : b.2 ≤ c.2
            · exact ⟨b, List.mem_cons_of_mem _ hb, fun d hd => (List.mem_cons.mp hd).elim (fun z => by rw [z]; exact q) (mb d)⟩
            · exact ⟨c, List.mem_cons_self, fun d hd => (List.mem_cons.mp hd).elim (fun z => by rw [z]; omega) fun z => by have := mb d z; omega⟩
      exact this cs fun z => by rw [z] at h3; simp at h3
    obtain ⟨k, ek⟩ := List.mem_iff_getElem?.mp hb
    obtain ⟨a, e, ha, he, tu, f1, f2⟩ := both k b ek
    have z := low_bound (mx a ha) (mx e he) tu f1 f2
    have := Int.mul_le_mul_of_nonneg_left (hm b hb) ht
    omega
/-- between two neighbouring heights: just the two sides that cross count -/
theorem InF.strip {t x y low high : Int} {cs : List P} {os : List Int} {r l : Nat} {cR dR cL dL : P} (h3 : 3 ≤ cs.length) (O : Out cs) (ht : 0 < t) (hr : r < cs.length) (hl : l < cs.length) (er : cs[r]? = some cR) (er' : cs[(r + 1) % cs.length]? = some dR) (el : cs[l]? = some cL) (el' : cs[(l + 1) % cs.length]? = some dL)
    (r1 : cR.2 ≤ low) (r2 : high ≤ dR.2) (l1 : dL.2 ≤ low) (l2 : high ≤ cL.2) (y1 : t * low < y) (y2 : y < t * high) :
    InF t cs os x y ↔ (0 ≤ ff t cR dR x y ∧ ((r : Int) ∈ os → 0 < ff t cR dR x y)) ∧ (0 ≤ ff t cL dL x y ∧ ((l : Int) ∈ os → 0 < ff t cL dL x y)) := by
  have m1 := Int.mul_le_mul_of_nonneg_left r1 (Int.le_of_lt ht)
  have m2 := Int.mul_le_mul_of_nonneg_left r2 (Int.le_of_lt ht)
  have m3 := Int.mul_le_mul_of_nonneg_left l1 (Int.le_of_lt ht)
  have m4 := Int.mul_le_mul_of_nonneg_left l2 (Int.le_of_lt ht)
  constructor
  · intro h
    exact ⟨h r cR dR hr er er', h l cL dL hl el el'⟩
  · rintro ⟨⟨f1, s1⟩, f2, s2⟩ i a b hi ea eb
    by_cases n1 : i = r
    · subst n1
      rw [er] at ea
      rw [er'] at eb
      cases ea
      cases eb
      exact ⟨f1, s1⟩
    by_cases n2 : i = l
    · subst n2
      rw [el] at ea
      rw [el'] at eb
      cases ea
      cases eb
      exact ⟨f2, s2⟩
    have := two_bind h3 O ht hr hl er er' el el' (by omega) (by omega) (by omega) (by omega) f1 f2 i a b hi ea eb n1 n2
    exact ⟨by omega, fun _ => this⟩
end Geo
set_option Elab.async false
set_option linter.all false
set_option maxRecDepth 100000
set_option maxHeartbeats 1000000
/-! the lines of a field's sides, by whole numbers without a common divisor -/
namespace Geo
open Hull (P turn Lt)
open Fen (Out Cor)
open Lat
def gP (a e : P) : Int := ((Nat.gcd (e.1 - a.1).natAbs (e.2 - a.2).natAbs : Nat) : Int)
def lnA (a e : P) : Int := (a.2 - e.2) / gP a e
def lnU (a e : P) : Int := (e.1 - a.1) / gP a e
def lnB (b n : Int) (a e : P) (o : Bool) : Int := leastFrom (n * (lnA a e * a.1 + lnU a e * a.2)) b o
section
variable {a e : P}
theorem gP_pos (h : a ≠ e) : 0 < gP a e := by
  unfold gP
  have : 0 < Nat.gcd (e.1 - a.1).natAbs (e.2 - a.2).natAbs := by
    refine Nat.gcd_pos_iff.mpr ?_
    refine Classical.byContradiction fun z => h ?_
    exact Prod.ext (by omega) (by omega)
  omega
theorem gP_A : gP a e * lnA a e = a.2 - e.2 := by
  unfold lnA
  refine Int.mul_ediv_cancel' ?_
  unfold gP
  have : (Nat.gcd (e.1 - a.1).natAbs (e.2 - a.2).natAbs) ∣ (a.2 - e.2).natAbs := by
    rw [show (a.2 - e.2).natAbs = (e.2 - a.2).natAbs by omega]
    exact Nat.gcd_dvd_right _ _
  exact Int.ofNat_dvd_left.mpr this
theorem gP_U : gP a e * lnU a e = e.1 - a.1 := by
  unfold lnU
  refine Int.mul_ediv_cancel' ?_
  unfold gP
  exact Int.ofNat_dvd_left.mpr (Nat.gcd_dvd_left _ _)
theorem ff_line (n b x y : Int) : ff n a e (b * x) (b * y) = gP a e * (b * (lnA a e * x + lnU a e * y) - n * (lnA a e * a.1 + lnU a e * a.2)) := by
  unfold ff
  rw [← gP_U (a := a) (e := e), show e.2 - a.2 = -(gP a e * lnA a e) by rw [gP_A]; omega]
  grind
/-- what the bound of a side says -/
theorem line_iff {n b x y : Int} {o : Bool} (h : a ≠ e) (hb : 0 < b) : lnB b n a e o ≤ lnA a e * x + lnU a e * y ↔ (if o = true then 0 < ff n a e (b * x) (b * y) else 0 ≤ ff n a e (b * x) (b * y)) := by
  unfold lnB
  rw [least_le hb, ff_line]
  have g := gP_pos h
  generalize b * (lnA a e * x + lnU a e * y) = u
  generalize n * (lnA a e * a.1 + lnU a e * a.2) = w
  cases o with
  | true =>
    rw [if_pos rfl, if_pos rfl]
    constructor
    · intro z
      exact Int.mul_pos g (by omega)
    · intro z
      have := Int.pos_of_mul_pos_right z g
      omega
  | false =>
    rw [if_neg (by decide), if_neg (by decide)]
    constructor
    · intro z
      exact Int.mul_nonneg (by omega) (by omega)
    · intro z
      refine Classical.byContradiction fun y => ?_
      have : gP a e * (u - w) ≤ gP a e * (-1) := Int.mul_le_mul_of_nonneg_left (by omega) (by omega)
      omega
theorem ln_le (h : a ≠ e) : (lnA a e).natAbs ≤ (a.2 - e.2).natAbs ∧ (lnU a e).natAbs ≤ (e.1 - a.1).natAbs := by
  have g := gP_pos h
  constructor
  · rw [← gP_A, Int.natAbs_mul]
    exact Nat.le_mul_of_pos_left _ (by omega)
  · rw [← gP_U, Int.natAbs_mul]
    exact Nat.le_mul_of_pos_left _ (by omega)
theorem ln_small (h : a ≠ e) (ha : Cor a) (he : Cor e) : (lnA a e).natAbs < 2 ^ 102 ∧ (lnU a e).natAbs < 2 ^ 102 := by
  obtain ⟨h1, h2⟩ := ln_le h
  have z : (10 : Int) ^ 30 = 1000000000000000000000000000000 := by decide
  have w : (2 : Nat) ^ 102 = 5070602400912917605986812821504 := by decide
  unfold Cor at ha he
  rw [z] at ha he
  rw [w]
  omega
end
/-- across, up and bound of a side -/
def lnOf (b n : Int) (cs : List P) (os : List Int) (i : Nat) : Int × Int × Int :=
  (lnA (cs.getD i (0, 0)) (cs.getD ((i + 1) % cs.length) (0, 0)), lnU (cs.getD i (0, 0)) (cs.getD ((i + 1) % cs.length) (0, 0)), lnB b n (cs.getD i (0, 0)) (cs.getD ((i + 1) % cs.length) (0, 0)) (os.contains (i : Int)))
theorem ends_ne {cs : List P} (h3 : 3 ≤ cs.length) (O : Out cs) {i : Nat} {a e : P} (hi : i < cs.length) (ea : cs[i]? = some a) (ee : cs[(i + 1) % cs.length]? = some e) : a ≠ e := fun z => by
  obtain ⟨j, hj⟩ : ∃ j, j = (i + 1 + 1) % cs.length := ⟨_, rfl⟩
  have lj : j < cs.length := by rw [hj]; exact Nat.mod_lt _ (by omega)
  have n1 : j ≠ i := fun w => by
    have := nx_two h3 hi (nx_lt h3 i) rfl (by rw [Nat.mod_add_mod, ← hj, w])
    exact this
  have n2 : j ≠ (i + 1) % cs.length := fun w => by
    have := nx_ne h3 (nx_lt h3 i)
    rw [Nat.mod_add_mod, ← hj] at this
    exact this w
  have := O.left i j a e _ hi lj ea ee (List.getElem?_eq_getElem lj) n1 n2
  rw [z] at this
  unfold turn at this
  simp at this
theorem gP_small {a e : P} (ha : Cor a) (he : Cor e) : (gP a e).natAbs < 2 ^ 102 := by
  have z : (10 : Int) ^ 30 = 1000000000000000000000000000000 := by decide
  have w : (2 : Nat) ^ 102 = 5070602400912917605986812821504 := by decide
  unfold Cor at ha he
  rw [z] at ha he
  rw [w]
  unfold gP
  by_cases q : (e.1 - a.1).natAbs = 0
  · rw [q, Nat.gcd_zero_left]
    omega
  · have := Nat.gcd_le_left (e.2 - a.2).natAbs (show 0 < (e.1 - a.1).natAbs by omega)
    omega
/-- a side's say, by its line -/
theorem line_key {cs : List P} {os : List Int} {b n x y : Int} (h3 : 3 ≤ cs.length) (O : Out cs) (hb : 0 < b) {i : Nat} {a e : P} (hi : i < cs.length) (ea : cs[i]? = some a) (ee : cs[(i + 1) % cs.length]? = some e) :
    (0 ≤ ff n a e (b * x) (b * y) ∧ ((i : Int) ∈ os → 0 < ff n a e (b * x) (b * y))) ↔ (lnOf b n cs os i).2.2 ≤ (lnOf b n cs os i).1 * x + (lnOf b n cs os i).2.1 * y := by
  have ne : a ≠ e := ends_ne h3 O hi ea ee
  have ga : cs.getD i (0, 0) = a := by rw [List.getD_eq_getElem?_getD, ea]; rfl
  have ge : cs.getD ((i + 1) % cs.length) (0, 0) = e := by rw [List.getD_eq_getElem?_getD, ee]; rfl
  unfold lnOf
  rw [ga, ge, line_iff ne hb]
  by_cases m : (i : Int) ∈ os
  · rw [if_pos (by simpa using m)]
    exact ⟨fun z => z.2 m, fun z => ⟨by omega, fun _ => z⟩⟩
  · rw [if_neg (by simpa using m)]
    exact ⟨fun z => z.1, fun z => ⟨z, fun y => absurd y m⟩⟩
/-- a stake belongs to a field: by the lines -/
theorem inF_lines {cs : List P} {os : List Int} {b n x y : Int} (h3 : 3 ≤ cs.length) (O : Out cs) (hb : 0 < b) :
    InF n cs os (b * x) (b * y) ↔ ∀ i, i < cs.length → (lnOf b n cs os i).2.2 ≤ (lnOf b n cs os i).1 * x + (lnOf b n cs os i).2.1 * y := by
  constructor
  · intro h i hi
    exact (line_key h3 O hb hi (List.getElem?_eq_getElem hi) (List.getElem?_eq_getElem (nx_lt h3 i))).mp (h i _ _ hi (List.getElem?_eq_getElem hi) (List.getElem?_eq_getElem (nx_lt h3 i)))
  · intro h i a e hi ea ee
    exact (line_key h3 O hb hi ea ee).mpr (h i hi)
/-- between two neighbouring heights just two lines count -/
theorem strip_lines {cs : List P} {os : List Int} {b n x y low high : Int} (h3 : 3 ≤ cs.length) (O : Out cs) (hb : 0 < b) (hn : 0 < n) {r l : Nat} {cR dR cL dL : P} (hr : r < cs.length) (hl : l < cs.length) (er : cs[r]? = some cR) (er' : cs[(r + 1) % cs.length]? = some dR) (el : cs[l]? = some cL) (el' : cs[(l + 1) % cs.length]? = some dL)
    (r1 : cR.2 ≤ low) (r2 : high ≤ dR.2) (l1 : dL.2 ≤ low) (l2 : high ≤ cL.2) (y1 : n * low < b * y) (y2 : b * y < n * high) :
    (∀ i, i < cs.length → (lnOf b n cs os i).2.2 ≤ (lnOf b n cs os i).1 * x + (lnOf b n cs os i).2.1 * y) ↔
      (lnOf b n cs os l).2.2 ≤ (lnOf b n cs os l).1 * x + (lnOf b n cs os l).2.1 * y ∧ (lnOf b n cs os r).2.2 ≤ (lnOf b n cs os r).1 * x + (lnOf b n cs os r).2.1 * y := by
  rw [← inF_lines h3 O hb, InF.strip h3 O hn hr hl er er' el el' r1 r2 l1 l2 y1 y2, line_key h3 O hb hr er er', line_key h3 O hb hl el el', and_comm]
/-- which way a side leads -/
theorem lnA_neg {a e : P} (h : a.2 < e.2) : lnA a e < 0 := by
  have g := gP_pos (a := a) (e := e) fun z => by rw [z] at h; omega
  have m := gP_A (a := a) (e := e)
  refine Classical.byContradiction fun z => ?_
  have : 0 ≤ gP a e * lnA a e := Int.mul_nonneg (by omega) (by omega)
  omega
theorem lnA_pos {a e : P} (h : e.2 < a.2) : 0 < lnA a e := by
  have g := gP_pos (a := a) (e := e) fun z => by rw [z] at h; omega
  have m := gP_A (a := a) (e := e)
  refine Classical.byContradiction fun z => ?_
  have : 0 ≤ gP a e * -lnA a e := Int.mul_nonneg (by omega) (by omega)
  rw [Int.mul_neg] at this
  omega
end Geo
set_option Elab.async false
set_option linter.all false
set_option maxRecDepth 100000
set_option maxHeartbeats 1000000
set_option exponentiation.threshold 20000
namespace K12
open PySem PySem.Spec PyProof.Rows L2 Fen
abbrev sFl : Stmt := topS 38
abbrev nFl : List Str := ["fence", "size", "bottom", "corners", "sides", "lines", "side", "x", "y", "next_x", "next_y", "part", "across", "up"]
theorem scFl : FnScope nFl ["fence", "size"] (defScope sFl) := ⟨rfl, rfl, rfl, by decide +kernel, rfl, by decide +kernel, by decide +kernel⟩
abbrev Ln := Int × Int × Int
/-- lines as they stand -/
def LnAt (K : PySem.W.Frag) (H : Hp) (ls : List (Addr × Ln)) : Prop := ∀ x ∈ ls, SqT K H x.1 [.int x.2.1, .int x.2.2.1, .int x.2.2.2]
def lrefs (ls : List (Addr × Ln)) : List V := ls.map fun x => V.ref x.1
theorem lrefs_len (ls : List (Addr × Ln)) : (lrefs ls).length = ls.length := by simp [lrefs]
theorem LnAt.same {K : PySem.W.Frag} {H H' : Hp} {ls : List (Addr × Ln)} (h : LnAt K H ls) (s : Same H H') : LnAt K H' ls := fun x hx => s.seqT (h x hx)
def linesOf (b n : Int) (cs : List Hull.P) (os : List Int) : List Ln := (List.range cs.length).map (Geo.lnOf b n cs os)
section
variable {P : Program} {w : World} {K : PySem.W.Frag} {mg : Str → Option Value} {base : Heap}
theorem nat_sum {i j : Int} {a : Nat} (hi : i.natAbs < 2 ^ a) (hj : j.natAbs < 2 ^ a) : (i + j).natAbs < 2 ^ (a + 1) := by
  rw [Nat.pow_succ]
  omega
theorem cor_small {p : Hull.P} (h : Cor p) : p.1.natAbs < 2 ^ 100 ∧ p.2.natAbs < 2 ^ 100 := by
  have z : (10 : Int) ^ 30 = 1000000000000000000000000000000 := by decide
  have w : (2 : Nat) ^ 100 = 1267650600228229401496703205376 := by decide
  unfold Cor at h
  rw [z] at h
  rw [w]
  omega
theorem inV_ints {i : Int} {os : List Int} : inV (.int i) (os.map V.int) = os.contains i := by
  unfold inV
  rw [List.any_map, List.contains_eq_any_beq]
  congr 1
  funext x
  show (x == i) = (i == x)
  exact Bool.beq_comm
def spFl (K : PySem.W.Frag) : Sp := fun vs H Q _ => ∃ (t c o : Addr) (b n : Int) (ks : Pts) (os : List Int), vs = [.ref t, .int n] ∧ FAt K H t c o b ks os ∧ IsF b (ks.map (·.2)) os ∧ 3 ≤ ks.length ∧ 1 ≤ n ∧ n ≤ 10 ^ 30 ∧
  ∀ H' L ls, Same H H' → H L = none → H' L = some (.lst (lrefs ls)) → LnAt K H' ls → ls.map (·.2) = linesOf b n (ks.map (·.2)) os → Q (.ref L) H'
theorem ok_fl {f fN fL : Addr} {fd fdN fdL : FuncData} {k : Nat} (F : Fun K "field_lines" "field_lines" sFl f fd) (T : Nms mg) (mg3 : mg "gcd" = some (.builtin "math.gcd"))
    (CN : Cal P w K mg base (k + 1) "next_corner" fN fdN ["corners", "side"] (spNx K)) (CL : Cal P w K mg base (k + 1) "least_from" fL fdL ["top", "bottom", "beyond"] spLea) :
    FnOk P w K mg base CX0 (k + 1 + 1) f fd ["fence", "size"] (spFl K) := by
  refine F.ok scFl (fun vs H Q E h => ?_) (fun cdv A outer s H vs Q E hr h => ?_)
  · obtain ⟨t, c, o, b, n, ks, os, rfl, _⟩ := h
    rfl
  · obtain ⟨t, c, o, b, n, ks, os, rfl, fa, isf, l3, n1, n2, q⟩ := h
    refine ⟨_, pss_cons (ps_asg (pv 0) (pg_tup rfl (pgs_cons (pg_name (i := 2) scFl.nd rfl (.inl rfl)) (pgs_cons (pg_name (i := 3) scFl.nd rfl (.inl rfl)) (pgs_cons (pg_name (i := 4) scFl.nd rfl (.inl rfl)) pgs_nil)))))
      (pss_cons (ps_set (i := 5) scFl.nd rfl (.inl rfl) (pe_lst pa_nil))
      (pss_cons (ps_for PassesOwn.never rfl (pi_enum (by rfl) T.menum (pa_cons (pv 3) pa_nil)) (pg_tup rfl (pgs_cons (pg_name (i := 6) scFl.nd rfl (.inl rfl)) (pgs_cons (pg_tup rfl (pgs_cons (pg_name (i := 7) scFl.nd rfl (.inl rfl)) (pgs_cons (pg_name (i := 8) scFl.nd rfl (.inl rfl)) pgs_nil))) pgs_nil)))
        (pss_cons (ps_asg (pe_cal CN hr (pa_cons (pv 3) (pa_cons (pv 6) pa_nil))) (pg_tup rfl (pgs_cons (pg_name (i := 9) scFl.nd rfl (.inl rfl)) (pgs_cons (pg_name (i := 10) scFl.nd rfl (.inl rfl)) pgs_nil))))
        (pss_cons (ps_set (i := 11) scFl.nd rfl (.inl rfl) (pe_callBfun cr_gcd (by rfl) mg3 (pa_cons (pe_op op_sub (pv 9) (pv 7)) (pa_cons (pe_op op_sub (pv 10) (pv 8)) pa_nil))))
        (pss_cons (ps_par (i := 12) (j := 13) rfl scFl.nd rfl rfl (by decide) rfl rfl (pa_cons (pe_op op_fdivW (pe_op op_sub (pv 8) (pv 10)) (pv 11)) (pa_cons (pe_op op_fdivW (pe_op op_sub (pv 9) (pv 7)) (pv 11)) pa_nil)) (by rfl))
        (pss_one (ps_expr (pe_bm PySem.F.plainAttrs_list PySem.F.slot_list_append PySem.F.type_list_append mt_append (pv 5) (pa_cons (pe_tup (pa_cons (pv 12) (pa_cons (pv 13) (pa_cons (pe_cal CL hr (pa_cons (pe_op op_mulW (pv 1) (pe_op op_add (pe_op op_mulW (pv 12) (pv 7)) (pe_op op_mulW (pv 13) (pv 8)))) (pa_cons (pv 2) (pa_cons (pe_cmpR op_in_seq (pv 6) (pv 4) (by rfl)) pa_nil)))) pa_nil)))) pa_nil))))))))
      (pss_one (ps_ret (pv 5))))), ?_⟩
    refine ⟨.ref t, rfl, t, _, rfl, fa.tup, rfl, .int b, [.ref c, .ref o], rfl, .ref c, [.ref o], rfl, .ref o, [], rfl, rfl, ?_⟩
    refine ⟨by show 0 ≤ sizeLine; decide, fun L nL => ?_⟩
    have s1 := same_new (o := .lst []) nL
    have gL : (upd H L (.lst [])) L = some (.lst []) := upd_same
    generalize upd H L (.lst []) = H1 at s1 gL ⊢
    have f1 := fa.same s1
    refine ⟨.ref c, rfl, c, _, rfl, f1.cor, ?_⟩
    have b1 := isf.b1
    have b2 := isf.b2
    have nb : n.natAbs < 2 ^ 100 := by
      have z : (10 : Int) ^ 30 = 1000000000000000000000000000000 := by decide
      have w : (2 : Nat) ^ 100 = 1267650600228229401496703205376 := by decide
      rw [z] at n2
      rw [w]
      omega
    refine for_it (walk_enum (K := K) (a := c) (xs := refs ks)) (fun e σ H' => ∃ z6 z7 z8 z9 z10 z11 z12 z13 ls, σ = [some (.ref t), some (.int n), some (.int b), some (.ref c), some (.ref o), some (.ref L), z6, z7, z8, z9, z10, z11, z12, z13] ∧ Same H H' ∧ H' L = some (.lst (lrefs ls)) ∧ LnAt K H' ls ∧ ls.map (·.2) = (List.range e).map (Geo.lnOf b n (ks.map (·.2)) os)) ⟨_, _, _, _, _, _, _, _, [], rfl, s1, gL, (fun x hx => absurd hx List.not_mem_nil), rfl⟩ (fun e σ H' _ z => ?_) ?_ ?_
    · obtain ⟨_, _, _, _, _, _, _, _, _, _, z, _⟩ := z
      exact z.seq fa.cor
    · rintro e x σ H7 H8 he ⟨z6, z7, z8, z9, z10, z11, z12, z13, ls, rfl, s7, hL, Tl, el⟩ ⟨U, x1, x2, rfl, nU, rfl, e1, e2⟩
      have ex1 : x1 = .int (e : Nat) := (Option.some.inj e1).symm
      subst ex1
      obtain ⟨p, hp, rfl⟩ := refs_get e2
      rw [refs_len] at he
      have l10 : ks.length ≤ 10 := by have := isf.l2; rw [List.length_map] at this; exact this
      have lb : (e + 1) % ks.length < ks.length := Nat.mod_lt _ (by omega)
      obtain ⟨r, hr2⟩ : ∃ r, ks[(e + 1) % ks.length]? = some r := ⟨_, List.getElem?_eq_getElem lb⟩
      have mp := List.mem_of_getElem? hp
      have mr := List.mem_of_getElem? hr2
      have s8 := s7.trans (same_new (o := .tup [.int (e : Nat), .ref p.1]) nU)
      have f8 := fa.same s8
      have cp := isf.co p.2 (List.mem_map.mpr ⟨p, mp, rfl⟩)
      have cr := isf.co r.2 (List.mem_map.mpr ⟨r, mr, rfl⟩)
      have hL8 := (same_new (o := .tup [.int (e : Nat), .ref p.1]) nU) _ _ hL
      have T8 := Tl.same (same_new (o := .tup [.int (e : Nat), .ref p.1]) nU)
      have O : Out (ks.map (·.2)) := by
        rcases isf.sh with z | ⟨a, d, z, _⟩ | z
        · rw [List.length_map] at z
          omega
        · have := congrArg List.length z
          rw [List.length_map] at this
          simp at this
          omega
        · exact z.2
      have ne : p.2 ≠ r.2 := Geo.ends_ne (cs := ks.map (·.2)) (by rw [List.length_map]; exact l3) O (i := e) (by rw [List.length_map]; exact he) (by rw [List.getElem?_map, hp]; rfl) (by rw [List.length_map, List.getElem?_map, hr2]; rfl)
      have g0 := Geo.gP_pos ne
      obtain ⟨sA, sU⟩ := Geo.ln_small ne cp cr
      obtain ⟨sx, sy⟩ := cor_small cp
      have gb : (Geo.gP p.2 r.2).natAbs < 2 ^ 4000 := Nat.lt_trans (Geo.gP_small cp cr) (by decide)
      have w1 := wide_lt sA (Nat.lt_of_lt_of_le sx (show 2 ^ 100 ≤ 2 ^ 102 by decide))
      have w2 := wide_lt sU (Nat.lt_of_lt_of_le sy (show 2 ^ 100 ≤ 2 ^ 102 by decide))
      refine ⟨U, _, rfl, SqT.of upd_same, rfl, .int (e : Nat), [.ref p.1], rfl, .ref p.1, [], rfl, p.1, _, rfl, f8.pts p mp, rfl, .int p.2.1, [.int p.2.2], rfl, .int p.2.2, [], rfl, rfl, rfl, ?_⟩
      refine ⟨.ref c, rfl, _, rfl, c, ks, e, r, rfl, f8.cor, hr2, r.1, _, rfl, f8.pts r mr, rfl, .int r.2.1, [.int r.2.2], rfl, .int r.2.2, [], rfl, rfl, ?_⟩
      refine ⟨_, rfl, _, rfl, _, _, rfl, rfl, _, rfl, _, rfl, _, _, rfl, rfl, _, _, rfl, ?_⟩
      refine ⟨_, rfl, _, rfl, _, _, rfl, rfl, _, rfl, _, _, rfl, rfl, wide_div g0 gb (by decide) (by decide), _, rfl, _, rfl, _, _, rfl, rfl, _, rfl, _, _, rfl, rfl, wide_div g0 gb (by decide) (by decide), _, _, rfl, ?_⟩
      refine ⟨.ref L, rfl, .inl ⟨rfl, _, SqL.of hL8⟩, .int (Geo.lnA p.2 r.2), rfl, .int (Geo.lnU p.2 r.2), rfl, .int n, rfl, .int (Geo.lnA p.2 r.2), rfl, .int p.2.1, rfl, _, _, rfl, rfl, wide_mul sA sx (by decide) (by decide) (by decide), .int (Geo.lnU p.2 r.2), rfl, .int p.2.2, rfl, _, _, rfl, rfl, wide_mul sU sy (by decide) (by decide) (by decide), _, _, rfl, rfl, _, _, rfl, rfl, wide_mul nb (nat_sum w1 w2) (by decide) (by decide) (by decide), ?_⟩
      refine ⟨_, rfl, .int (e : Nat), rfl, .ref o, rfl, o, _, rfl, .inl f8.sid, rfl, by simp [flatV], ?_⟩
      refine ⟨_, b, _, rfl, by omega, Nat.lt_of_le_of_lt (show b.natAbs ≤ 30 by omega) (by decide), ?_⟩
      rw [inV_ints]
      refine ⟨by show 3 ≤ sizeLine; decide, fun t' nt' => ?_⟩
      have lls : ls.length = e := by
        have := congrArg List.length el
        rw [List.length_map, List.length_map, List.length_range] at this
        exact this
      have eL : ((Geo.lnA p.2 r.2, Geo.lnU p.2 r.2, Geo.lnB b n p.2 r.2 (os.contains (e : Int))) : Ln) = Geo.lnOf b n (ks.map (·.2)) os e := by
        unfold Geo.lnOf
        rw [List.length_map, getD_snd hp, getD_snd hr2]
      have j1 := same_new (o := .tup [.int (Geo.lnA p.2 r.2), .int (Geo.lnU p.2 r.2), .int (Geo.lnB b n p.2 r.2 (os.contains (e : Int)))]) nt'
      have gt : (upd (upd H7 U (.tup [.int (e : Nat), .ref p.1])) t' (.tup [.int (Geo.lnA p.2 r.2), .int (Geo.lnU p.2 r.2), .int (Geo.lnB b n p.2 r.2 (os.contains (e : Int)))])) t' = some (.tup [.int (Geo.lnA p.2 r.2), .int (Geo.lnU p.2 r.2), .int (Geo.lnB b n p.2 r.2 (os.contains (e : Int)))]) := upd_same
      have tL : t' ≠ L := fun z => by
        rw [z, hL8] at nt'
        cases nt'
      refine ⟨L, lrefs ls, .ref t', rfl, rfl, j1 _ _ hL8, by rw [lrefs_len, lls]; exact Nat.lt_of_lt_of_le (show e < 11 by omega) (by decide), ?_⟩
      have s9 := s8.trans j1
      have T9 := T8.same j1
      have hL9 := j1 _ _ hL8
      refine ⟨_, _, _, _, _, _, _, _, ls ++ [(t', (Geo.lnA p.2 r.2, Geo.lnU p.2 r.2, Geo.lnB b n p.2 r.2 (os.contains (e : Int))))], rfl, fun b' o' e' => ?_, ?_, fun x hx => ?_, ?_⟩
      · have nb : b' ≠ L := fun z => by
          rw [z, nL] at e'
          cases e'
        rw [upd_ne nb]
        exact s9 b' o' e'
      · rw [upd_same]
        simp [lrefs]
      · rcases List.mem_append.mp hx with z | z
        · exact L2.SqT.put (T9 x z) hL9 SameX.put
        · rw [List.mem_singleton.mp z]
          refine SqT.of ?_
          rw [upd_ne tL]
          exact gt
      · rw [List.map_append, el, List.range_succ, List.map_append]
        congr 1
        rw [List.map_singleton, List.map_singleton, ← eL]
    · rintro σ H7 ⟨z6, z7, z8, z9, z10, z11, z12, z13, ls, rfl, s7, hL, Tl, el⟩
      rw [refs_len] at el
      exact ⟨_, rfl, q _ L ls s7 nL hL Tl (by rw [el]; unfold linesOf; rw [List.length_map])⟩
end
end K12
set_option Elab.async false
set_option linter.all false
set_option maxRecDepth 100000
set_option maxHeartbeats 1000000
set_option exponentiation.threshold 20000
namespace K12
open PySem PySem.Spec PyProof.Rows L2 Fen
abbrev sFr : Stmt := topS 39
abbrev nFr : List Str := ["lines", "row", "across", "up", "bound", "least", "greatest", "line"]
theorem scFr : FnScope nFr ["lines", "row"] (defScope sFr) := ⟨rfl, rfl, rfl, by decide +kernel, rfl, by decide +kernel, by decide +kernel⟩
/-- a stake of a row keeps all lines -/
def InL (ls : List Ln) (x row : Int) : Prop := ∀ l ∈ ls, l.2.2 ≤ l.1 * x + l.2.1 * row
def LSm (l : Ln) : Prop := l.1.natAbs < 2 ^ 102 ∧ l.2.1.natAbs < 2 ^ 102
theorem lrefs_get {ls : List (Addr × Ln)} {i : Nat} {v : V} (h : (lrefs ls)[i]? = some v) : ∃ l, ls[i]? = some l ∧ v = .ref l.1 := by
  unfold lrefs at h
  rw [List.getElem?_map] at h
  cases e : ls[i]? with
  | none => rw [e] at h; cases h
  | some l => rw [e] at h; exact ⟨l, rfl, (Option.some.inj h).symm⟩
theorem row_iff {ls : List Ln} {row least greatest x : Int} (z : ∀ l ∈ ls, l.1 = 0 → l.2.2 ≤ l.2.1 * row) (lm : ∃ l ∈ ls, 0 < l.1 ∧ least = -Lat.reach l.1 l.2.1 l.2.2 row) (lb : ∀ l ∈ ls, 0 < l.1 → -Lat.reach l.1 l.2.1 l.2.2 row ≤ least)
    (gm : ∃ l ∈ ls, l.1 < 0 ∧ greatest = Lat.reach l.1 l.2.1 l.2.2 row) (gb : ∀ l ∈ ls, l.1 < 0 → greatest ≤ Lat.reach l.1 l.2.1 l.2.2 row) : InL ls x row ↔ least ≤ x ∧ x ≤ greatest := by
  constructor
  · intro h
    obtain ⟨l, hl, l0, e⟩ := lm
    obtain ⟨g, hg, g0, e2⟩ := gm
    rw [e, e2]
    exact ⟨(Lat.reach_pos l0).mp (h l hl), (Lat.reach_neg g0).mp (h g hg)⟩
  · rintro ⟨h1, h2⟩ l hl
    rcases Int.lt_trichotomy l.1 0 with q | q | q
    · exact (Lat.reach_neg q).mpr (Int.le_trans h2 (gb l hl q))
    · rw [q, Int.zero_mul, Int.zero_add]
      exact z l hl q
    · exact (Lat.reach_pos q).mpr (Int.le_trans (lb l hl q) h1)
section
variable {P : Program} {w : World} {K : PySem.W.Frag} {mg : Str → Option Value} {base : Heap}
def spFr (K : PySem.W.Frag) : Sp := fun vs H Q _ => ∃ (L : Addr) (ls : List (Addr × Ln)) (row : Int), vs = [.ref L, .int row] ∧ SqL K H L (lrefs ls) ∧ LnAt K H ls ∧ (∀ l ∈ ls, LSm l.2) ∧ row.natAbs < 2 ^ 4000 ∧ ls.length ≤ 10 ∧ (∃ l ∈ ls, 0 < l.2.1) ∧ (∃ l ∈ ls, l.2.1 < 0) ∧
  (∀ H', Same H H' → (∀ x, ¬ InL (ls.map (·.2)) x row) → Q .non H') ∧ (∀ H' p lo hi, Same H H' → H' p = some (.tup [.int lo, .int hi]) → H p = none → lo ≤ hi → (∀ x, InL (ls.map (·.2)) x row ↔ lo ≤ x ∧ x ≤ hi) → Q (.ref p) H')
theorem ok_fr {f fR fE : Addr} {fd fdR fdE : FuncData} {k : Nat} (F : Fun K "field_row" "field_row" sFr f fd) (mmax : mg "max" = none) (mmin : mg "min" = none)
    (CR : Cal P w K mg base (k + 1) "reach" fR fdR ["line", "row"] (spRea K)) (CE : Cal P w K mg base (k + 1) "ends_or_none" fE fdE ["least", "greatest"] (spEon K)) :
    FnOk P w K mg base CX0 (k + 1 + 1) f fd ["lines", "row"] (spFr K) := by
  refine F.ok scFr (fun vs H Q E h => ?_) (fun cdv A outer s H vs Q E hr h => ?_)
  · obtain ⟨L, ls, row, rfl, _⟩ := h
    rfl
  · obtain ⟨L, ls, row, rfl, hL, hT, sm, rb, l10, hp, hn, q1, q2⟩ := h
    refine ⟨_, pss_cons (ps_for PassesOwn.never rfl (pi_list (pv 0)) (pg_tup rfl (pgs_cons (pg_name (i := 2) scFr.nd rfl (.inl rfl)) (pgs_cons (pg_name (i := 3) scFr.nd rfl (.inl rfl)) (pgs_cons (pg_name (i := 4) scFr.nd rfl (.inl rfl)) pgs_nil))))
        (pss_one (ps_if (PW.pt (pw_and (pt_cmpR op_eq (pv 2) pe_int (nomark _)) (pw_and1 (pt_cmpR op_lt (pe_op op_mulW (pv 3) (pv 1)) (pv 4) (nomark _))))) (pss_one (ps_ret pe_non)) pss_nil)))
      (pss_cons (ps_set (i := 5) scFr.nd rfl (.inl rfl) (pe_callB (cr_max rfl) (by rfl) mmax (by decide +kernel) (pa_cons (pe_lc (own := [("line", 7)]) (g := gName 7) (tt := tTest (tOp (rI0 fun i j => .bl (decide (j < i))) (tOp (rIxT K) (tVar 7) (tC (.int 0))) (tC (.int 0)))) rfl scFr.nd (pi_list (pv 0)) (blkOk_by (N := nFr) (sc := defScope sFr) (by decide +kernel)) (fun _ _ _ _ _ => pg_name (i := 7) scFr.nd rfl (Or.inl rfl))
          (fun _ _ _ _ _ => pts_one (pt_cmpR op_gt (pe_ix ix_tup (pv 7) pe_int (fun _ _ => rfl)) pe_int (nomark _))) (fun _ _ _ _ _ => pe_un un_neg (pe_cal CR hr (pa_cons (pv 7) (pa_cons (pv 1) pa_nil))))) pa_nil)))
      (pss_cons (ps_set (i := 6) scFr.nd rfl (.inl rfl) (pe_callB (cr_min rfl) (by rfl) mmin (by decide +kernel) (pa_cons (pe_lc (own := [("line", 7)]) (g := gName 7) (tt := tTest (tOp (rI0 fun i j => .bl (decide (i < j))) (tOp (rIxT K) (tVar 7) (tC (.int 0))) (tC (.int 0)))) rfl scFr.nd (pi_list (pv 0)) (blkOk_by (N := nFr) (sc := defScope sFr) (by decide +kernel)) (fun _ _ _ _ _ => pg_name (i := 7) scFr.nd rfl (Or.inl rfl))
          (fun _ _ _ _ _ => pts_one (pt_cmpR op_lt (pe_ix ix_tup (pv 7) pe_int (fun _ _ => rfl)) pe_int (nomark _))) (fun _ _ _ _ _ => pe_cal CR hr (pa_cons (pv 7) (pa_cons (pv 1) pa_nil)))) pa_nil)))
      (pss_one (ps_ret (pe_cal CE hr (pa_cons (pv 5) (pa_cons (pv 6) pa_nil))))))), ?_⟩
    refine ⟨.ref L, rfl, L, rfl, ⟨_, hL⟩, ?_⟩
    refine for_list (K := K) (a := L) (xs := lrefs ls) (fun i σ H' => ∃ y2 y3 y4, σ = [some (.ref L), some (.int row), y2, y3, y4, none, none, none] ∧ H' = H ∧ ∀ j l, j < i → ls[j]? = some l → l.2.1 = 0 → l.2.2.2 ≤ l.2.2.1 * row) ⟨_, _, _, rfl, rfl, fun j l z => absurd z (Nat.not_lt_zero _)⟩ ?_ ?_ ?_
    · rintro i σ H' _ ⟨_, _, _, _, rfl, _⟩
      exact hL
    · rintro i v σ H' hv ⟨y2, y3, y4, rfl, rfl, ok⟩
      obtain ⟨l, hl, rfl⟩ := lrefs_get hv
      have ml := List.mem_of_getElem? hl
      refine ⟨l.1, _, rfl, hT l ml, rfl, .int l.2.1, [.int l.2.2.1, .int l.2.2.2], rfl, .int l.2.2.1, [.int l.2.2.2], rfl, .int l.2.2.2, [], rfl, rfl, ?_⟩
      have nxt : (l.2.1 = 0 → l.2.2.2 ≤ l.2.2.1 * row) → ∀ j l', j < i + 1 → ls[j]? = some l' → l'.2.1 = 0 → l'.2.2.2 ≤ l'.2.2.1 * row := fun h j l' hj e z => by
        by_cases q : j = i
        · subst q
          rw [hl] at e
          cases e
          exact h z
        · exact ok j l' (by omega) e z
      refine ⟨_, rfl, rfl, _, rfl, ite2 (fun e => ?_) (fun e => ?_)⟩
      · have e0 : l.2.1 = 0 := V.int.inj (of_decide_eq_true e)
        refine ⟨_, rfl, _, rfl, _, _, rfl, rfl, wide_mul (sm l ml).2 rb (by decide) (by decide) (by decide), _, rfl, _, _, rfl, rfl, _, rfl, ite2 (fun e2 => ?_) (fun e2 => ?_)⟩
        · have e3 : l.2.2.1 * row < l.2.2.2 := of_decide_eq_true e2
          refine q1 _ (Same.refl _) fun x hx => ?_
          have := hx l.2 (List.mem_map.mpr ⟨l, ml, rfl⟩)
          rw [e0, Int.zero_mul] at this
          omega
        · have e3 : ¬ l.2.2.1 * row < l.2.2.2 := fun z => e2 (decide_eq_true z)
          exact ⟨_, _, _, rfl, rfl, nxt fun _ => by omega⟩
      · have e0 : l.2.1 ≠ 0 := fun z => e (decide_eq_true (congrArg V.int z))
        exact iteF ⟨_, _, _, rfl, rfl, nxt fun z => absurd z e0⟩
    rintro σ H₀ ⟨y2, y3, y4, rfl, eH, ok⟩
    have eH' := eH.symm
    clear eH
    subst eH'
    rw [lrefs_len] at ok
    have flat : ∀ l ∈ ls.map (·.2), l.1 = 0 → l.2.2 ≤ l.2.1 * row := fun l hl => by
      obtain ⟨x, hx, rfl⟩ := List.mem_map.mp hl
      obtain ⟨i, hi⟩ := List.mem_iff_getElem?.mp hx
      exact ok i x (List.getElem?_eq_some_iff.mp hi).1 hi
    refine ⟨.ref L, rfl, L, rfl, ⟨_, hL⟩, fun D1 nD1 => ?_⟩
    refine lc_list (K := K) (a := L) (xs := lrefs ls) (fun j H' => Same H H' ∧ ∃ ns : List Int, H' D1 = some (.lst (ns.map V.int)) ∧ ns.length ≤ j ∧ ∀ m, m ∈ ns ↔ ∃ i l, i < j ∧ ls[i]? = some l ∧ 0 < l.2.1 ∧ m = -Lat.reach l.2.1 l.2.2.1 l.2.2.2 row) ⟨same_new nD1, [], upd_same, Nat.le_refl _, fun m => ⟨fun z => absurd z List.not_mem_nil, fun ⟨_, _, z, _⟩ => absurd z (Nat.not_lt_zero _)⟩⟩ ?_ ?_ ?_
    · rintro j H' _ ⟨s', _⟩
      exact s'.seq hL
    · rintro j v H' hv ⟨s', ns, hD, ln, mem⟩
      obtain ⟨l, hl, rfl⟩ := lrefs_get hv
      have ml := List.mem_of_getElem? hl
      have T' := s'.seqT (hT l ml)
      have lj := (List.getElem?_eq_some_iff.mp hl).1
      refine ⟨rfl, .ref l.1, rfl, l.1, _, 0, .int l.2.1, rfl, rfl, T', atI_nat (j := 0) rfl, _, _, rfl, rfl, _, rfl, ite2 (fun e => ?_) (fun e => ?_)⟩
      · have e1 : 0 < l.2.1 := of_decide_eq_true e
        refine ⟨.ref l.1, rfl, .int row, rfl, l.1, l.2.1, l.2.2.1, l.2.2.2, row, rfl, T', by omega, Nat.lt_trans (sm l ml).1 (by decide), Nat.lt_trans (sm l ml).2 (by decide), rb, _, rfl, ns.map V.int, hD, by rw [List.length_map]; exact Nat.lt_of_lt_of_le (show ns.length < 11 by omega) (by decide), fun b o e => ?_, ns ++ [-Lat.reach l.2.1 l.2.2.1 l.2.2.2 row], by rw [upd_same, List.map_append]; rfl, by rw [List.length_append, List.length_singleton]; omega, fun m => ?_⟩
        · have nb : b ≠ D1 := fun z => by
            rw [z, nD1] at e
            cases e
          rw [upd_ne nb]
          exact s' b o e
        · rw [List.mem_append, List.mem_singleton, mem]
          constructor
          · rintro (⟨i, l', h1, h2⟩ | rfl)
            · exact ⟨i, l', by omega, h2⟩
            · exact ⟨j, l, by omega, hl, e1, rfl⟩
          · rintro ⟨i, l', h1, h2, h3, rfl⟩
            by_cases q : i = j
            · subst q
              rw [hl] at h2
              cases h2
              exact .inr rfl
            · exact .inl ⟨i, l', by omega, h2, h3, rfl⟩
      · have e1 : ¬ 0 < l.2.1 := fun z => e (decide_eq_true z)
        refine ⟨s', ns, hD, by omega, fun m => (mem m).trans ⟨fun ⟨i, l', h1, h2⟩ => ⟨i, l', by omega, h2⟩, ?_⟩⟩
        rintro ⟨i, l', h1, h2, h3, rfl⟩
        by_cases q : i = j
        · subst q
          rw [hl] at h2
          cases h2
          exact absurd h3 e1
        · exact ⟨i, l', by omega, h2, h3, rfl⟩
    rintro H1 ⟨s1, ns1, hD1, ln1, mem1⟩
    rw [lrefs_len] at ln1 mem1
    have has1 : 0 < ns1.length := by
      obtain ⟨l, hl, h0⟩ := hp
      obtain ⟨i, hi⟩ := List.mem_iff_getElem?.mp hl
      exact List.length_pos_of_mem ((mem1 _).mpr ⟨i, l, (List.getElem?_eq_some_iff.mp hi).1, hi, h0, rfl⟩)
    refine ⟨D1, ns1, rfl, SqL.of hD1, has1, fun x1 xm1 xb1 => ?_⟩
    have T1 := hT.same s1
    have hL1 := s1.seq hL
    refine ⟨.ref L, rfl, L, rfl, ⟨_, hL1⟩, fun D2 nD2 => ?_⟩
    refine lc_list (K := K) (a := L) (xs := lrefs ls) (fun j H' => Same H1 H' ∧ ∃ ns : List Int, H' D2 = some (.lst (ns.map V.int)) ∧ ns.length ≤ j ∧ ∀ m, m ∈ ns ↔ ∃ i l, i < j ∧ ls[i]? = some l ∧ l.2.1 < 0 ∧ m = Lat.reach l.2.1 l.2.2.1 l.2.2.2 row) ⟨same_new nD2, [], upd_same, Nat.le_refl _, fun m => ⟨fun z => absurd z List.not_mem_nil, fun ⟨_, _, z, _⟩ => absurd z (Nat.not_lt_zero _)⟩⟩ ?_ ?_ ?_
    · rintro j H' _ ⟨s', _⟩
      exact s'.seq hL1
    · rintro j v H' hv ⟨s', ns, hD, ln, mem⟩
      obtain ⟨l, hl, rfl⟩ := lrefs_get hv
      have ml := List.mem_of_getElem? hl
      have T' := s'.seqT (T1 l ml)
      have lj := (List.getElem?_eq_some_iff.mp hl).1
      refine ⟨rfl, .ref l.1, rfl, l.1, _, 0, .int l.2.1, rfl, rfl, T', atI_nat (j := 0) rfl, _, _, rfl, rfl, _, rfl, ite2 (fun e => ?_) (fun e => ?_)⟩
      · have e1 : l.2.1 < 0 := of_decide_eq_true e
        refine ⟨.ref l.1, rfl, .int row, rfl, l.1, l.2.1, l.2.2.1, l.2.2.2, row, rfl, T', by omega, Nat.lt_trans (sm l ml).1 (by decide), Nat.lt_trans (sm l ml).2 (by decide), rb, ns.map V.int, hD, by rw [List.length_map]; exact Nat.lt_of_lt_of_le (show ns.length < 11 by omega) (by decide), fun b o e => ?_, ns ++ [Lat.reach l.2.1 l.2.2.1 l.2.2.2 row], by rw [upd_same, List.map_append]; rfl, by rw [List.length_append, List.length_singleton]; omega, fun m => ?_⟩
        · have nb : b ≠ D2 := fun z => by
            rw [z, nD2] at e
            cases e
          rw [upd_ne nb]
          exact s' b o e
        · rw [List.mem_append, List.mem_singleton, mem]
          constructor
          · rintro (⟨i, l', h1, h2⟩ | rfl)
            · exact ⟨i, l', by omega, h2⟩
            · exact ⟨j, l, by omega, hl, e1, rfl⟩
          · rintro ⟨i, l', h1, h2, h3, rfl⟩
            by_cases q : i = j
            · subst q
              rw [hl] at h2
              cases h2
              exact .inr rfl
            · exact .inl ⟨i, l', by omega, h2, h3, rfl⟩
      · have e1 : ¬ l.2.1 < 0 := fun z => e (decide_eq_true z)
        refine ⟨s', ns, hD, by omega, fun m => (mem m).trans ⟨fun ⟨i, l', h1, h2⟩ => ⟨i, l', by omega, h2⟩, ?_⟩⟩
        rintro ⟨i, l', h1, h2, h3, rfl⟩
        by_cases q : i = j
        · subst q
          rw [hl] at h2
          cases h2
          exact absurd h3 e1
        · exact ⟨i, l', by omega, h2, h3, rfl⟩
    rintro H2 ⟨s2, ns2, hD2, ln2, mem2⟩
    rw [lrefs_len] at ln2 mem2
    have has2 : 0 < ns2.length := by
      obtain ⟨l, hl, h0⟩ := hn
      obtain ⟨i, hi⟩ := List.mem_iff_getElem?.mp hl
      exact List.length_pos_of_mem ((mem2 _).mpr ⟨i, l, (List.getElem?_eq_some_iff.mp hi).1, hi, h0, rfl⟩)
    refine ⟨D2, ns2, rfl, SqL.of hD2, has2, fun x2 xm2 xb2 => ?_⟩
    have s12 := s1.trans s2
    have key : ∀ x, InL (ls.map (·.2)) x row ↔ x1 ≤ x ∧ x ≤ x2 := fun x => by
      refine row_iff flat ?_ (fun l hl h0 => ?_) ?_ (fun l hl h0 => ?_)
      · obtain ⟨i, l, h1, h2, h3, h4⟩ := (mem1 x1).mp xm1
        exact ⟨l.2, List.mem_map.mpr ⟨l, List.mem_of_getElem? h2, rfl⟩, h3, h4⟩
      · obtain ⟨y, hy, rfl⟩ := List.mem_map.mp hl
        obtain ⟨i, hi⟩ := List.mem_iff_getElem?.mp hy
        exact xb1 _ ((mem1 _).mpr ⟨i, y, (List.getElem?_eq_some_iff.mp hi).1, hi, h0, rfl⟩)
      · obtain ⟨i, l, h1, h2, h3, h4⟩ := (mem2 x2).mp xm2
        exact ⟨l.2, List.mem_map.mpr ⟨l, List.mem_of_getElem? h2, rfl⟩, h3, h4⟩
      · obtain ⟨y, hy, rfl⟩ := List.mem_map.mp hl
        obtain ⟨i, hi⟩ := List.mem_iff_getElem?.mp hy
        exact xb2 _ ((mem2 _).mpr ⟨i, y, (List.getElem?_eq_some_iff.mp hi).1, hi, h0, rfl⟩)
    refine ⟨_, rfl, _, rfl, x1, x2, rfl, fun lt => q1 _ s12 fun x hx => ?_, fun le p np => q2 _ p x1 x2 (s12.trans (same_new np)) upd_same (s12.free np) le key⟩
    have := (key x).mp hx
    omega
end
end K12
set_option Elab.async false
set_option linter.all false
set_option maxRecDepth 100000
set_option maxHeartbeats 1000000
set_option exponentiation.threshold 20000
namespace L2
open PySem PySem.Spec PyProof.Rows
/-- one reading or another -/
theorem PE.or {X : Cx} {e : Expr} {t1 t2 : TE} (h1 : PE X e t1) (h2 : PE X e t2) : PE X e (fun σ H Q => t1 σ H Q ∨ t2 σ H Q) := ⟨fun pins s σ H Q I q => q.elim (fun z => h1.run pins s σ H Q I z) fun z => h2.run pins s σ H Q I z⟩
end L2
namespace K12
open PySem PySem.Spec PyProof.Rows L2 Fen
abbrev sRunI : Stmt := inClass (topS 33) 0
abbrev sRunS : Stmt := inClass (topS 33) 3
abbrev sRunE : Stmt := inClass (topS 33) 4
abbrev sStpI : Stmt := inClass (topS 34) 0
abbrev sStpE : Stmt := inClass (topS 34) 4
theorem scRunI : FnScope ["self", "start", "step", "many"] ["self", "start", "step", "many"] (defScope sRunI) := ⟨rfl, rfl, rfl, by decide +kernel, rfl, by decide +kernel, by decide +kernel⟩
theorem scRunS : FnScope ["self", "index"] ["self", "index"] (defScope sRunS) := ⟨rfl, rfl, rfl, by decide +kernel, rfl, by decide +kernel, by decide +kernel⟩
theorem scRunE : FnScope ["self", "row", "y", "up", "index", "rest", "x"] ["self", "row"] (defScope sRunE) := ⟨rfl, rfl, rfl, by decide +kernel, rfl, by decide +kernel, by decide +kernel⟩
theorem scStpI : FnScope ["self", "first", "last", "left", "right"] ["self", "first", "last", "left", "right"] (defScope sStpI) := ⟨rfl, rfl, rfl, by decide +kernel, rfl, by decide +kernel, by decide +kernel⟩
theorem scStpE : FnScope ["self", "row"] ["self", "row"] (defScope sStpE) := ⟨rfl, rfl, rfl, by decide +kernel, rfl, by decide +kernel, by decide +kernel⟩
/-- the fields of a run, of a strip -/
def rf (t s : Addr) (m : Int) : List (Str × V) := putF "many" (.int m) (putF "step" (.ref s) (putF "start" (.ref t) []))
def sf (a b : Int) (l r : Addr) : List (Str × V) := putF "right" (.ref r) (putF "left" (.ref l) (putF "last" (.int b) (putF "first" (.int a) [])))
section
variable {t s l r : Addr} {m a b : Int}
theorem rf_start : (rf t s m).lookup ("start" : Str) = some (.ref t) := by unfold rf; rw [lookup_putF, if_neg (by decide +kernel), lookup_putF, if_neg (by decide +kernel), lookup_putF, if_pos rfl]
theorem rf_step : (rf t s m).lookup ("step" : Str) = some (.ref s) := by unfold rf; rw [lookup_putF, if_neg (by decide +kernel), lookup_putF, if_pos rfl]
theorem rf_many : (rf t s m).lookup ("many" : Str) = some (.int m) := by unfold rf; rw [lookup_putF, if_pos rfl]
theorem rf_no {x : Str} (h1 : ¬ x = "many") (h2 : ¬ x = "step") (h3 : ¬ x = "start") : (rf t s m).lookup x = none := by unfold rf; rw [lookup_putF, if_neg h1, lookup_putF, if_neg h2, lookup_putF, if_neg h3]; rfl
theorem sf_first : (sf a b l r).lookup ("first" : Str) = some (.int a) := by unfold sf; rw [lookup_putF, if_neg (by decide +kernel), lookup_putF, if_neg (by decide +kernel), lookup_putF, if_neg (by decide +kernel), lookup_putF, if_pos rfl]
theorem sf_last : (sf a b l r).lookup ("last" : Str) = some (.int b) := by unfold sf; rw [lookup_putF, if_neg (by decide +kernel), lookup_putF, if_neg (by decide +kernel), lookup_putF, if_pos rfl]
theorem sf_left : (sf a b l r).lookup ("left" : Str) = some (.ref l) := by unfold sf; rw [lookup_putF, if_neg (by decide +kernel), lookup_putF, if_pos rfl]
theorem sf_right : (sf a b l r).lookup ("right" : Str) = some (.ref r) := by unfold sf; rw [lookup_putF, if_pos rfl]
theorem sf_no {x : Str} (h1 : ¬ x = "right") (h2 : ¬ x = "left") (h3 : ¬ x = "last") (h4 : ¬ x = "first") : (sf a b l r).lookup x = none := by unfold sf; rw [lookup_putF, if_neg h1, lookup_putF, if_neg h2, lookup_putF, if_neg h3, lookup_putF, if_neg h4]; rfl
end
/-- a run as it stands -/
structure RunAt (K : PySem.W.Frag) (C : Addr) (H : Hp) (p : Addr) (x y u v m : Int) : Prop where
  at_ : ∃ dx t s, H p = some (.ins C dx (rf t s m)) ∧ SqT K H t [.int x, .int y] ∧ SqT K H s [.int u, .int v]
theorem RunAt.same {K : PySem.W.Frag} {C : Addr} {H H' : Hp} {p : Addr} {x y u v m : Int} (h : RunAt K C H p x y u v m) (s : Same H H') : RunAt K C H' p x y u v m := by
  obtain ⟨dx, t, st, h1, h2, h3⟩ := h.at_
  exact ⟨dx, t, st, s _ _ h1, s.seqT h2, s.seqT h3⟩
structure StripAt (K : PySem.W.Frag) (C : Addr) (H : Hp) (p : Addr) (a b : Int) (l r : Ln) : Prop where
  at_ : ∃ dx lA rA, H p = some (.ins C dx (sf a b lA rA)) ∧ SqT K H lA [.int l.1, .int l.2.1, .int l.2.2] ∧ SqT K H rA [.int r.1, .int r.2.1, .int r.2.2]
theorem StripAt.same {K : PySem.W.Frag} {C : Addr} {H H' : Hp} {p : Addr} {a b : Int} {l r : Ln} (h : StripAt K C H p a b l r) (s : Same H H') : StripAt K C H' p a b l r := by
  obtain ⟨dx, lA, rA, h1, h2, h3⟩ := h.at_
  exact ⟨dx, lA, rA, s _ _ h1, s.seqT h2, s.seqT h3⟩
structure RunT (K : PySem.W.Frag) (C : Addr) : Prop where
  cl : Cls K C
  n1 : NoAttr K C "start"
  n2 : NoAttr K C "step"
  n3 : NoAttr K C "many"
structure StripT (K : PySem.W.Frag) (C : Addr) : Prop where
  cl : Cls K C
  n1 : NoAttr K C "first"
  n2 : NoAttr K C "last"
  n3 : NoAttr K C "left"
  n4 : NoAttr K C "right"
/-- the ends of what is there in a row, None where nothing is -/
def Ends (S : Int → Prop) (H : Hp) (Q : VK) : Prop := (∀ H', Same H H' → (∀ x, ¬ S x) → Q .non H') ∧ (∀ H' p lo hi, Same H H' → H' p = some (.tup [.int lo, .int hi]) → lo ≤ hi → (∀ x, S x ↔ lo ≤ x ∧ x ≤ hi) → Q (.ref p) H')
section
variable {P : Program} {w : World} {K : PySem.W.Frag} {mg : Str → Option Value} {base : Heap}
def spRunI (C : Addr) : Sp := fun vs H Q _ => ∃ (p dx t s : Addr) (m : Int), vs = [.ref p, .ref t, .ref s, .int m] ∧ H p = some (.ins C dx []) ∧ Q .non (upd H p (.ins C dx (rf t s m)))
theorem ok_runI {f C : Addr} {fd : FuncData} {k : Nat} (F : Fun K "__init__" "Run.__init__" sRunI f fd) (T : RunT K C) : FnOk P w K mg base CX0 (k + 1) f fd ["self", "start", "step", "many"] (spRunI C) := by
  refine F.ok scRunI (fun vs H Q E h => ?_) (fun cdv A outer s H vs Q E hr h => ?_)
  · obtain ⟨p, dx, t, st, m, rfl, _⟩ := h
    rfl
  · obtain ⟨p, dx, t, st, m, rfl, hp, q⟩ := h
    refine ⟨_, pss_cons (ps_fld (pv 0) (pv 1) rfl) (pss_cons (ps_fld (pv 0) (pv 2) rfl) (pss_one (ps_fld (pv 0) (pv 3) rfl))), ?_⟩
    refine ⟨.ref t, rfl, .ref p, rfl, p, C, dx, [], rfl, hp, T.cl, T.n1, (by show 0 < 1000; decide), ?_⟩
    refine ⟨.ref st, rfl, .ref p, rfl, p, C, dx, _, rfl, upd_same, T.cl, T.n2, (by show 1 < 1000; decide), ?_⟩
    refine ⟨.int m, rfl, .ref p, rfl, p, C, dx, _, rfl, upd_same, T.cl, T.n3, (by show 2 < 1000; decide), ?_⟩
    have e : upd (upd (upd H p (.ins C dx (putF "start" (.ref t) []))) p (.ins C dx (putF "step" (.ref st) (putF "start" (.ref t) [])))) p (.ins C dx (rf t st m)) = upd H p (.ins C dx (rf t st m)) := by
      funext b
      by_cases h : b = p
      · rw [h, upd_same, upd_same]
      · rw [upd_ne h, upd_ne h, upd_ne h, upd_ne h]
    rw [← e] at q
    exact q
def spStpI (C : Addr) : Sp := fun vs H Q _ => ∃ (p dx l r : Addr) (a b : Int), vs = [.ref p, .int a, .int b, .ref l, .ref r] ∧ H p = some (.ins C dx []) ∧ Q .non (upd H p (.ins C dx (sf a b l r)))
theorem ok_stpI {f C : Addr} {fd : FuncData} {k : Nat} (F : Fun K "__init__" "Strip.__init__" sStpI f fd) (T : StripT K C) : FnOk P w K mg base CX0 (k + 1) f fd ["self", "first", "last", "left", "right"] (spStpI C) := by
  refine F.ok scStpI (fun vs H Q E h => ?_) (fun cdv A outer s H vs Q E hr h => ?_)
  · obtain ⟨p, dx, l, r, a, b, rfl, _⟩ := h
    rfl
  · obtain ⟨p, dx, l, r, a, b, rfl, hp, q⟩ := h
    refine ⟨_, pss_cons (ps_fld (pv 0) (pv 1) rfl) (pss_cons (ps_fld (pv 0) (pv 2) rfl) (pss_cons (ps_fld (pv 0) (pv 3) rfl) (pss_one (ps_fld (pv 0) (pv 4) rfl)))), ?_⟩
    refine ⟨.int a, rfl, .ref p, rfl, p, C, dx, [], rfl, hp, T.cl, T.n1, (by show 0 < 1000; decide), ?_⟩
    refine ⟨.int b, rfl, .ref p, rfl, p, C, dx, _, rfl, upd_same, T.cl, T.n2, (by show 1 < 1000; decide), ?_⟩
    refine ⟨.ref l, rfl, .ref p, rfl, p, C, dx, _, rfl, upd_same, T.cl, T.n3, (by show 2 < 1000; decide), ?_⟩
    refine ⟨.ref r, rfl, .ref p, rfl, p, C, dx, _, rfl, upd_same, T.cl, T.n4, (by show 3 < 1000; decide), ?_⟩
    have e : upd (upd (upd (upd H p (.ins C dx (putF "first" (.int a) []))) p (.ins C dx (putF "last" (.int b) (putF "first" (.int a) [])))) p (.ins C dx (putF "left" (.ref l) (putF "last" (.int b) (putF "first" (.int a) []))))) p (.ins C dx (sf a b l r)) = upd H p (.ins C dx (sf a b l r)) := by
      funext c
      by_cases h : c = p
      · rw [h, upd_same, upd_same]
      · rw [upd_ne h, upd_ne h, upd_ne h, upd_ne h, upd_ne h]
    rw [← e] at q
    exact q
def spRunS (K : PySem.W.Frag) (C : Addr) : Sp := fun vs H Q _ => ∃ (p : Addr) (x y u v m i : Int), vs = [.ref p, .int i] ∧ RunAt K C H p x y u v m ∧ i.natAbs < 2 ^ 4000 ∧ u.natAbs < 2 ^ 4000 ∧ v.natAbs < 2 ^ 4000 ∧ ∀ z, H z = none → Q (.ref z) (upd H z (.tup [.int (x + i * u), .int (y + i * v)]))
theorem ok_runS {f C : Addr} {fd : FuncData} {k : Nat} (F : Fun K "stake_at" "Run.stake_at" sRunS f fd) (T : RunT K C) : FnOk P w K mg base CX0 (k + 1) f fd ["self", "index"] (spRunS K C) := by
  refine F.ok scRunS (fun vs H Q E h => ?_) (fun cdv A outer s H vs Q E hr h => ?_)
  · obtain ⟨p, x, y, u, v, m, i, rfl, _⟩ := h
    rfl
  · obtain ⟨p, x, y, u, v, m, i, rfl, ⟨dx, t, st, hp, ht, hs⟩, bi, bu, bv, q⟩ := h
    refine ⟨_, pss_one (ps_ret (pe_tup (pa_cons (pe_op op_add (pe_ix ix_tup (pe_fld (pv 0) rfl) pe_int (fun _ _ => rfl)) (pe_op op_mulW (pv 1) (pe_ix ix_tup (pe_fld (pv 0) rfl) pe_int (fun _ _ => rfl)))) (pa_cons (pe_op op_add (pe_ix ix_tup (pe_fld (pv 0) rfl) pe_int (fun _ _ => rfl)) (pe_op op_mulW (pv 1) (pe_ix ix_tup (pe_fld (pv 0) rfl) pe_int (fun _ _ => rfl)))) pa_nil)))), ?_⟩
    refine ⟨.ref p, rfl, p, C, dx, _, .ref t, rfl, hp, T.cl, T.n1, rf_start, t, _, 0, .int x, rfl, rfl, ht, atI_nat (j := 0) rfl, .int i, rfl, .ref p, rfl, p, C, dx, _, .ref st, rfl, hp, T.cl, T.n2, rf_step, st, _, 0, .int u, rfl, rfl, hs, atI_nat (j := 0) rfl, _, _, rfl, rfl, wide_mul bi bu (by decide) (by decide) (by decide), _, _, rfl, rfl, ?_⟩
    refine ⟨.ref p, rfl, p, C, dx, _, .ref t, rfl, hp, T.cl, T.n1, rf_start, t, _, 1, .int y, rfl, rfl, ht, atI_nat (j := 1) rfl, .int i, rfl, .ref p, rfl, p, C, dx, _, .ref st, rfl, hp, T.cl, T.n2, rf_step, st, _, 1, .int v, rfl, rfl, hs, atI_nat (j := 1) rfl, _, _, rfl, rfl, wide_mul bi bv (by decide) (by decide) (by decide), _, _, rfl, rfl, by show 2 ≤ sizeLine; decide, fun z nz => q z nz⟩
end
end K12
set_option Elab.async false
set_option linter.all false
set_option maxRecDepth 100000
set_option maxHeartbeats 1000000
set_option exponentiation.threshold 20000
namespace K12
open PySem PySem.Spec PyProof.Rows L2 Fen
section
variable {P : Program} {w : World} {K : PySem.W.Frag} {mg : Str → Option Value} {base : Heap}
def InStrip (a b : Int) (l r : Ln) (row x : Int) : Prop := a ≤ row ∧ row ≤ b ∧ l.2.2 ≤ l.1 * x + l.2.1 * row ∧ r.2.2 ≤ r.1 * x + r.2.1 * row
def spStpE (K : PySem.W.Frag) (C : Addr) : Sp := fun vs H Q _ => ∃ (p : Addr) (a b : Int) (l r : Ln) (row : Int), vs = [.ref p, .int row] ∧ StripAt K C H p a b l r ∧ 0 < l.1 ∧ r.1 < 0 ∧ LSm l ∧ LSm r ∧ row.natAbs < 2 ^ 4000 ∧ Ends (InStrip a b l r row) H Q
theorem ok_stpE {f C fR fE : Addr} {fd fdR fdE : FuncData} {k : Nat} (F : Fun K "row_ends" "Strip.row_ends" sStpE f fd) (T : StripT K C)
    (CR : Cal P w K mg base (k + 1) "reach" fR fdR ["line", "row"] (spRea K)) (CE : Cal P w K mg base (k + 1) "ends_or_none" fE fdE ["least", "greatest"] (spEon K)) :
    FnOk P w K mg base CX0 (k + 1 + 1) f fd ["self", "row"] (spStpE K C) := by
  refine F.ok scStpE (fun vs H Q E h => ?_) (fun cdv A outer s H vs Q E hr h => ?_)
  · obtain ⟨p, a, b, l, r, row, rfl, _⟩ := h
    rfl
  · obtain ⟨p, a, b, l, r, row, rfl, ⟨dx, lA, rA, hp, hl, hr'⟩, l0, r0, sl, sr, rb, q1, q2⟩ := h
    refine ⟨_, pss_cons (ps_if (pt_not (pt_chain op_le op_le (pe_fld (pv 0) rfl) (pv 1) (pe_fld (pv 0) rfl))) (pss_one (ps_ret pe_non)) pss_nil)
      (pss_one (ps_ret (pe_cal CE hr (pa_cons (pe_un un_neg (pe_cal CR hr (pa_cons (pe_fld (pv 0) rfl) (pa_cons (pv 1) pa_nil)))) (pa_cons (pe_cal CR hr (pa_cons (pe_fld (pv 0) rfl) (pa_cons (pv 1) pa_nil))) pa_nil))))), ?_⟩
    refine ⟨.ref p, rfl, p, C, dx, _, .int a, rfl, hp, T.cl, T.n1, sf_first, .int row, rfl, a, row, rfl, rfl, _, rfl, ite2 (fun e => ?_) (fun e => ?_)⟩
    · have e1 : a ≤ row := of_decide_eq_true e
      refine ⟨.ref p, rfl, p, C, dx, _, .int b, rfl, hp, T.cl, T.n2, sf_last, row, b, rfl, rfl, _, rfl, ?_⟩
      by_cases e2 : row ≤ b
      · rw [decide_eq_true e2]
        refine iteF ?_
        refine ⟨.ref p, rfl, p, C, dx, _, .ref lA, rfl, hp, T.cl, T.n3, sf_left, .int row, rfl, lA, l.1, l.2.1, l.2.2, row, rfl, hl, by omega, Nat.lt_trans sl.1 (by decide), Nat.lt_trans sl.2 (by decide), rb, _, rfl, ?_⟩
        refine ⟨.ref p, rfl, p, C, dx, _, .ref rA, rfl, hp, T.cl, T.n4, sf_right, .int row, rfl, rA, r.1, r.2.1, r.2.2, row, rfl, hr', by omega, Nat.lt_trans sr.1 (by decide), Nat.lt_trans sr.2 (by decide), rb, ?_⟩
        have key : ∀ x, InStrip a b l r row x ↔ -Lat.reach l.1 l.2.1 l.2.2 row ≤ x ∧ x ≤ Lat.reach r.1 r.2.1 r.2.2 row := fun x => by
          unfold InStrip
          rw [Lat.reach_pos l0, Lat.reach_neg r0]
          exact ⟨fun z => z.2.2, fun z => ⟨e1, e2, z⟩⟩
        refine ⟨_, _, rfl, fun lt => q1 _ (Same.refl _) fun x hx => ?_, fun le z nz => q2 _ z _ _ (same_new nz) upd_same le key⟩
        have := (key x).mp hx
        omega
      · rw [decide_eq_false e2]
        exact iteT (q1 _ (Same.refl _) fun x hx => e2 hx.2.1)
    · have e1 : ¬ a ≤ row := fun z => e (decide_eq_true z)
      exact ⟨false, rfl, iteT (q1 _ (Same.refl _) fun x hx => e1 hx.1)⟩
/-- the stakes of a run -/
def OnRun (x y u v m row px : Int) : Prop := ∃ k, 0 ≤ k ∧ k < m ∧ px = x + k * u ∧ row = y + k * v
def spRunE (K : PySem.W.Frag) (C : Addr) : Sp := fun vs H Q _ => ∃ (p : Addr) (x y u v m row : Int), vs = [.ref p, .int row] ∧ RunAt K C H p x y u v m ∧ 1 ≤ m ∧ m.natAbs < 2 ^ 4000 ∧ u.natAbs < 2 ^ 4000 ∧ 0 ≤ v ∧ v.natAbs < 2 ^ 3000 ∧ (row - y).natAbs < 2 ^ 4000 ∧ (v = 0 → u = 1) ∧ Ends (OnRun x y u v m row) H Q
theorem ok_runE {f C fS : Addr} {fd fdS : FuncData} {k : Nat} (F : Fun K "row_ends" "Run.row_ends" sRunE f fd) (T : RunT K C) (mdm : mg "divmod" = none)
    (OS : FnOk P w K mg base CX0 (k + 1) fS fdS ["self", "index"] (spRunS K C)) (mS : Meth K C "stake_at" fS) (bS : Binds K fdS ["self", "index"] []) :
    FnOk P w K mg base CX0 (k + 1 + 1) f fd ["self", "row"] (spRunE K C) := by
  refine F.ok scRunE (fun vs H Q E h => ?_) (fun cdv A outer s H vs Q E hr h => ?_)
  · obtain ⟨p, x, y, u, v, m, row, rfl, _⟩ := h
    rfl
  · obtain ⟨p, x, y, u, v, m, row, rfl, R, m1, mb, ub, v0, vb, yb, uv, q1, q2⟩ := h
    obtain ⟨dx, t, st, hp, ht, hs⟩ := id R.at_
    refine ⟨_, pss_cons (ps_par (i := 2) (j := 3) rfl scRunE.nd rfl rfl (by decide) rfl rfl (pa_cons (pe_ix ix_tup (pe_fld (pv 0) rfl) pe_int (fun _ _ => rfl)) (pa_cons (pe_ix ix_tup (pe_fld (pv 0) rfl) pe_int (fun _ _ => rfl)) pa_nil)) (by rfl))
      (pss_cons (ps_if (pt_cmpR op_eq (pv 3) pe_int (nomark _)) (pss_cons (ps_if (pt_cmpR op_ne (pv 1) (pv 2) (nomark _)) (pss_one (ps_ret pe_non)) pss_nil)
          (pss_one (ps_ret (pe_tup (pa_cons (pe_ix ix_tup (pe_fld (pv 0) rfl) pe_int (fun _ _ => rfl)) (pa_cons (pe_ix ix_tup (pe_meth (pv 0) T.cl mS OS hr bS .nil pass0 (pa_cons (pe_op op_sub (pe_fld (pv 0) rfl) pe_int) pa_nil)) pe_int (fun _ _ => rfl)) pa_nil)))))) pss_nil)
      (pss_cons (ps_asg (pe_callB call_divmodW (by rfl) mdm (by decide +kernel) (pa_cons (pe_op op_sub (pv 1) (pv 2)) (pa_cons (pv 3) pa_nil))) (pg_tup rfl (pgs_cons (pg_name (i := 4) scRunE.nd rfl (.inl rfl)) (pgs_cons (pg_name (i := 5) scRunE.nd rfl (.inl rfl)) pgs_nil))))
      (pss_cons (ps_if (PW.pt (pw_or (pt_cmpR op_ne (pv 5) pe_int (nomark _)) (pw_or1 (pt_not (pt_chain op_le op_lt pe_int (pv 4) (pe_fld (pv 0) rfl)))))) (pss_one (ps_ret pe_non)) pss_nil)
      (pss_cons (ps_set (i := 6) scRunE.nd rfl (.inl rfl) (pe_ix ix_tup (pe_meth (pv 0) T.cl mS OS hr bS .nil pass0 (pa_cons (pv 4) pa_nil)) pe_int (fun _ _ => rfl)))
      (pss_one (ps_ret (pe_tup (pa_cons (pv 6) (pa_cons (pv 6) pa_nil))))))))), ?_⟩
    have no : (rf t st m).lookup ("stake_at" : Str) = none := rf_no (by decide +kernel) (by decide +kernel) (by decide +kernel)
    refine ⟨.ref p, rfl, p, C, dx, _, .ref t, rfl, hp, T.cl, T.n1, rf_start, t, _, 1, .int y, rfl, rfl, ht, atI_nat (j := 1) rfl, .ref p, rfl, p, C, dx, _, .ref st, rfl, hp, T.cl, T.n2, rf_step, st, _, 1, .int v, rfl, rfl, hs, atI_nat (j := 1) rfl, _, _, rfl, ?_⟩
    refine ⟨_, rfl, rfl, _, rfl, ite2 (fun e => ?_) (fun e => ?_)⟩
    · have ev : v = 0 := V.int.inj (of_decide_eq_true e)
      have eu := uv ev
      refine ⟨_, rfl, .int y, rfl, rfl, _, rfl, ite2 (fun e2 => ?_) (fun e2 => ?_)⟩
      · have ne : row ≠ y := fun z => by
          rw [z] at e2
          simp at e2
        refine q1 _ (Same.refl _) fun px ⟨k, _, _, _, h⟩ => ne ?_
        rw [h, ev, Int.mul_zero, Int.add_zero]
      · have ey : row = y := by
          refine Classical.byContradiction fun z => e2 ?_
          rw [decide_eq_false (fun w => z (V.int.inj w))]
          rfl
        refine ⟨.ref p, rfl, p, C, dx, _, .ref t, rfl, hp, T.cl, T.n1, rf_start, t, _, 0, .int x, rfl, rfl, ht, atI_nat (j := 0) rfl, ?_⟩
        refine ⟨.ref p, rfl, p, dx, _, rfl, hp, no, .ref p, rfl, p, C, dx, _, .int m, rfl, hp, T.cl, T.n3, rf_many, _, _, rfl, rfl, p, x, y, u, v, m, m - 1, rfl, R, Nat.lt_of_le_of_lt (by omega) mb, ub, Nat.lt_trans vb (by decide), fun z nz => ?_⟩
        refine ⟨z, _, 0, .int (x + (m - 1) * u), rfl, rfl, .inl (.inl upd_same), atI_nat (j := 0) rfl, by show 2 ≤ sizeLine; decide, fun z2 nz2 => ?_⟩
        refine q2 _ z2 x (x + (m - 1) * u) ((same_new nz).trans (same_new nz2)) upd_same (by rw [eu]; omega) fun px => ?_
        constructor
        · rintro ⟨k, k0, k1, rfl, _⟩
          rw [eu]
          omega
        · rintro ⟨h1, h2⟩
          rw [eu] at h2
          exact ⟨px - x, by omega, by omega, by rw [eu]; omega, by rw [ev, ey]; omega⟩
    · have vp : 0 < v := by
        have : v ≠ 0 := fun z => e (decide_eq_true (congrArg V.int z))
        omega
      refine ⟨.int row, rfl, .int y, rfl, row, y, rfl, rfl, .int v, rfl, row - y, v, rfl, ⟨vp, PyProof.noPylong_of_log2 (wide_div (i := 0) vp vb (by decide) (by decide)).2⟩, fun z nz => ?_⟩
      refine ⟨z, _, rfl, .inl (.inl upd_same), rfl, .int ((row - y) / v), [.int ((row - y) % v)], rfl, .int ((row - y) % v), [], rfl, rfl, ?_⟩
      have s1 := same_new (o := .tup [.int ((row - y) / v), .int ((row - y) % v)]) nz
      generalize upd H z (.tup [.int ((row - y) / v), .int ((row - y) % v)]) = H1 at s1 ⊢
      have R1 := R.same s1
      have hp1 := s1 _ _ hp
      have de := Int.mul_ediv_add_emod (row - y) v
      have m0 := Int.emod_nonneg (row - y) (show v ≠ 0 by omega)
      have m1' := Int.emod_lt_of_pos (row - y) vp
      have only : ∀ px, OnRun x y u v m row px → (row - y) % v = 0 ∧ 0 ≤ (row - y) / v ∧ (row - y) / v < m ∧ px = x + (row - y) / v * u := fun px ⟨k, k0, k1, hx, hy⟩ => by
        have e1 : row - y = k * v := by omega
        rw [e1, Int.mul_emod_left, Int.mul_ediv_cancel _ (show v ≠ 0 by omega)]
        exact ⟨rfl, k0, k1, hx⟩
      refine ⟨_, rfl, rfl, _, rfl, ite2 (fun e2 => ?_) (fun e2 => ?_)⟩
      · have ne : (row - y) % v ≠ 0 := fun z => by
          rw [z] at e2
          simp at e2
        exact q1 _ s1 fun px h => ne (only px h).1
      · have ez : (row - y) % v = 0 := by
          refine Classical.byContradiction fun z => e2 ?_
          rw [decide_eq_false (fun w => z (V.int.inj w))]
          rfl
        refine ⟨.int ((row - y) / v), rfl, _, _, rfl, rfl, _, rfl, ite2 (fun e3 => ?_) (fun e3 => ?_)⟩
        · have i0 : 0 ≤ (row - y) / v := of_decide_eq_true e3
          refine ⟨.ref p, rfl, p, C, dx, _, .int m, rfl, hp1, T.cl, T.n3, rf_many, _, _, rfl, rfl, _, rfl, ?_⟩
          by_cases im : (row - y) / v < m
          · rw [decide_eq_true im]
            refine iteF ?_
            refine ⟨.ref p, rfl, p, dx, _, rfl, hp1, no, .int ((row - y) / v), rfl, p, x, y, u, v, m, (row - y) / v, rfl, R1, Nat.lt_of_le_of_lt (by omega) mb, ub, Nat.lt_trans vb (by decide), fun z3 nz3 => ?_⟩
            refine ⟨z3, _, 0, .int (x + (row - y) / v * u), rfl, rfl, .inl (.inl upd_same), atI_nat (j := 0) rfl, _, rfl, _, rfl, by show 2 ≤ sizeLine; decide, fun z4 nz4 => ?_⟩
            refine q2 _ z4 _ _ (s1.trans ((same_new nz3).trans (same_new nz4))) upd_same (Int.le_refl _) fun px => ?_
            constructor
            · intro h
              have := (only px h).2.2.2
              omega
            · rintro ⟨h1, h2⟩
              refine ⟨(row - y) / v, i0, im, by omega, ?_⟩
              rw [Int.mul_comm]
              omega
          · rw [decide_eq_false im]
            exact iteT (q1 _ s1 fun px h => im (only px h).2.2.1)
        · have i0 : ¬ 0 ≤ (row - y) / v := fun z => e3 (decide_eq_true z)
          exact ⟨false, rfl, iteT (q1 _ s1 fun px h => i0 (only px h).2.1)⟩
end
end K12
set_option Elab.async false
set_option linter.all false
set_option maxRecDepth 100000
set_option maxHeartbeats 1000000
set_option exponentiation.threshold 20000
namespace K12
open PySem PySem.Spec PyProof.Rows L2 Fen
abbrev sEof : Stmt := topS 50
theorem scEof : FnScope ["pieces", "row", "piece", "ends"] ["pieces", "row"] (defScope sEof) := ⟨rfl, rfl, rfl, by decide +kernel, rfl, by decide +kernel, by decide +kernel⟩
def BSm (l : Ln) : Prop := l.2.2.natAbs < 2 ^ 1000
/-- a piece -/
inductive Pc
  | run (x y u v m : Int)
  | strip (a b : Int) (l r : Ln)
def PcIn : Pc → Int → Int → Prop
  | .run x y u v m, row, px => OnRun x y u v m row px
  | .strip a b l r, row, px => InStrip a b l r row px
def PcOk : Pc → Prop
  | .run x y u v m => 1 ≤ m ∧ m.natAbs < 2 ^ 4000 ∧ u.natAbs < 2 ^ 3000 ∧ 0 ≤ v ∧ v.natAbs < 2 ^ 3000 ∧ y.natAbs < 2 ^ 3000 ∧ (v = 0 → u = 1)
  | .strip a b l r => 0 < l.1 ∧ r.1 < 0 ∧ LSm l ∧ LSm r ∧ BSm l ∧ BSm r ∧ a.natAbs < 2 ^ 1000 ∧ b.natAbs < 2 ^ 1000 ∧ ∀ row, a ≤ row → row ≤ b → -Lat.reach l.1 l.2.1 l.2.2 row ≤ Lat.reach r.1 r.2.1 r.2.2 row + 1
def PcAt (K : PySem.W.Frag) (R S : Addr) (H : Hp) (p : Addr) : Pc → Prop
  | .run x y u v m => RunAt K R H p x y u v m
  | .strip a b l r => StripAt K S H p a b l r
abbrev Pcs := List (Addr × Pc)
def prefs (ps : Pcs) : List V := ps.map fun x => V.ref x.1
theorem prefs_len (ps : Pcs) : (prefs ps).length = ps.length := by simp [prefs]
theorem prefs_get {ps : Pcs} {i : Nat} {v : V} (h : (prefs ps)[i]? = some v) : ∃ x, ps[i]? = some x ∧ v = .ref x.1 := by
  unfold prefs at h
  rw [List.getElem?_map] at h
  cases e : ps[i]? with
  | none => rw [e] at h; cases h
  | some l => rw [e] at h; exact ⟨l, rfl, (Option.some.inj h).symm⟩
def PcsAt (K : PySem.W.Frag) (R S : Addr) (H : Hp) (ps : Pcs) : Prop := ∀ x ∈ ps, PcAt K R S H x.1 x.2
theorem PcAt.same {K : PySem.W.Frag} {R S : Addr} {H H' : Hp} {p : Addr} {c : Pc} (h : PcAt K R S H p c) (s : Same H H') : PcAt K R S H' p c := by
  cases c with
  | run x y u v m => exact RunAt.same h s
  | strip a b l r => exact StripAt.same h s
theorem PcsAt.same {K : PySem.W.Frag} {R S : Addr} {H H' : Hp} {ps : Pcs} (h : PcsAt K R S H ps) (s : Same H H') : PcsAt K R S H' ps := fun x hx => (h x hx).same s
/-- what is there in a row -/
def InPs (ps : Pcs) (row x : Int) : Prop := ∃ p ∈ ps, PcIn p.2 row x
/-- the rows of a piece are below those of each later one -/
def Sep (ps : Pcs) : Prop := ∀ (i j : Nat) p q row row' x y, i < j → ps[i]? = some p → ps[j]? = some q → PcIn p.2 row x → PcIn q.2 row' y → row < row'
/-- no two pieces share a row -/
theorem Sep.ne {ps : Pcs} (h : Sep ps) (i j : Nat) (p q : Addr × Pc) (row x y : Int) (n : i ≠ j) (ei : ps[i]? = some p) (ej : ps[j]? = some q) (hp : PcIn p.2 row x) : ¬ PcIn q.2 row y := fun hq => by
  rcases Nat.lt_or_gt_of_ne n with l | l
  · exact Int.lt_irrefl _ (h i j p q row row x y l ei ej hp hq)
  · exact Int.lt_irrefl _ (h j i q p row row y x l ej ei hq hp)
section
variable {P : Program} {w : World} {K : PySem.W.Frag} {mg : Str → Option Value} {base : Heap}
theorem sub_small {a b : Int} {n : Nat} (ha : a.natAbs < 2 ^ n) (hb : b.natAbs < 2 ^ n) : (a - b).natAbs < 2 ^ (n + 1) := by
  rw [Nat.pow_succ]
  omega
def spEof (K : PySem.W.Frag) (R S : Addr) : Sp := fun vs H Q _ => ∃ (M : Addr) (ps : Pcs) (row : Int), vs = [.ref M, .int row] ∧ H M = some (.lst (prefs ps)) ∧ PcsAt K R S H ps ∧ (∀ p ∈ ps, PcOk p.2) ∧ Sep ps ∧ row.natAbs < 2 ^ 3000 ∧ Ends (InPs ps row) H Q
theorem ok_eof {f R S fR fS : Addr} {fd fdR fdS : FuncData} {k : Nat} (F : Fun K "ends_of" "ends_of" sEof f fd) (TR : RunT K R) (TS : StripT K S)
    (OR : FnOk P w K mg base CX0 (k + 1) fR fdR ["self", "row"] (spRunE K R)) (mR : Meth K R "row_ends" fR) (bR : Binds K fdR ["self", "row"] [])
    (OS : FnOk P w K mg base CX0 (k + 1) fS fdS ["self", "row"] (spStpE K S)) (mS : Meth K S "row_ends" fS) (bS : Binds K fdS ["self", "row"] []) :
    FnOk P w K mg base CX0 (k + 1 + 1) f fd ["pieces", "row"] (spEof K R S) := by
  refine F.ok scEof (fun vs H Q E h => ?_) (fun cdv A outer s H vs Q E hr h => ?_)
  · obtain ⟨M, ps, row, rfl, _⟩ := h
    rfl
  · obtain ⟨M, ps, row, rfl, hM, hA, ok, sep, rb, q1, q2⟩ := h
    refine ⟨_, pss_cons (ps_for PassesOwn.never rfl (pi_list (pv 0)) (pg_name (i := 2) scEof.nd rfl (.inl rfl))
        (pss_cons (ps_set (i := 3) scEof.nd rfl (.inl rfl) (PE.or (pe_meth (pv 2) TR.cl mR OR hr bR .nil pass0 (pa_cons (pv 1) pa_nil)) (pe_meth (pv 2) TS.cl mS OS hr bS .nil pass0 (pa_cons (pv 1) pa_nil))))
        (pss_one (ps_if (pt_cmpR op_notN (pv 3) pe_non (nomark _)) (pss_one (ps_ret (pv 3))) pss_nil))))
      (pss_one (ps_ret pe_non)), ?_⟩
    refine ⟨.ref M, rfl, M, rfl, ⟨_, SqL.of hM⟩, ?_⟩
    refine for_list (K := K) (a := M) (xs := prefs ps) (fun i σ H' => ∃ y2 y3, σ = [some (.ref M), some (.int row), y2, y3] ∧ Same H H' ∧ ∀ j p x, j < i → ps[j]? = some p → ¬ PcIn p.2 row x) ⟨_, _, rfl, Same.refl _, fun j p x z => absurd z (Nat.not_lt_zero _)⟩ ?_ ?_ ?_
    · rintro i σ H' _ ⟨_, _, _, s', _⟩
      exact SqL.of (s' _ _ hM)
    · rintro i v σ H' hv ⟨y2, y3, rfl, s', un⟩
      obtain ⟨⟨a, c⟩, hx, rfl⟩ := prefs_get hv
      have mx := List.mem_of_getElem? hx
      have at1 := (hA _ mx).same s'
      have ok1 := ok _ mx
      have go : ∀ {Qc : VK}, (∀ H2, Same H' H2 → (∀ x, ¬ PcIn c row x) → Qc .non H2) → (∀ H2 z, Same H' H2 → Q (.ref z) H2 → Qc (.ref z) H2) → Ends (PcIn c row) H' Qc := fun {Qc} h1 h2 => by
        refine ⟨fun H2 s2 no => h1 H2 s2 no, fun H2 z lo hi s2 hz le iff => h2 H2 z s2 ?_⟩
        refine q2 H2 z lo hi (s'.trans s2) hz le fun x => ?_
        rw [← iff]
        constructor
        · rintro ⟨p, hp, hpx⟩
          obtain ⟨j, hj⟩ := List.mem_iff_getElem?.mp hp
          by_cases e : j = i
          · subst e
            rw [hx] at hj
            cases hj
            exact hpx
          · exact absurd ((iff lo).mpr ⟨Int.le_refl _, le⟩) (sep.ne j i p _ row x lo e hj hx hpx)
        · exact fun h => ⟨_, mx, h⟩
      have nxt : (∀ x, ¬ PcIn c row x) → ∀ j p x, j < i + 1 → ps[j]? = some p → ¬ PcIn p.2 row x := fun no j p x hj e => by
        by_cases q : j = i
        · subst q
          rw [hx] at e
          cases e
          exact no x
        · exact un j p x (by omega) e
      cases c with
      | run x y u v m =>
        obtain ⟨o1, o2, o3, o4, o5, o6, o7⟩ := ok1
        obtain ⟨dx, t, st, hp, _⟩ := id (RunAt.at_ at1)
        refine .inl ⟨.ref a, rfl, a, dx, _, rfl, hp, rf_no (by decide +kernel) (by decide +kernel) (by decide +kernel), .int row, rfl, a, x, y, u, v, m, row, rfl, at1, o1, o2, Nat.lt_trans o3 (by decide), o4, o5, Nat.lt_trans (sub_small rb o6) (by decide), o7, go (fun H2 s2 no => ?_) fun H2 z s2 hz => ?_⟩
        · exact ⟨_, rfl, rfl, _, rfl, iteF ⟨_, _, rfl, s'.trans s2, nxt no⟩⟩
        · exact ⟨_, rfl, rfl, _, rfl, iteT ⟨_, rfl, hz⟩⟩
      | strip b1 b2 l r =>
        obtain ⟨o1, o2, o3, o4, _⟩ := ok1
        obtain ⟨dx, lA, rA, hp, _⟩ := id (StripAt.at_ at1)
        refine .inr ⟨.ref a, rfl, a, dx, _, rfl, hp, sf_no (by decide +kernel) (by decide +kernel) (by decide +kernel) (by decide +kernel), .int row, rfl, a, b1, b2, l, r, row, rfl, at1, o1, o2, o3, o4, Nat.lt_trans rb (by decide), go (fun H2 s2 no => ?_) fun H2 z s2 hz => ?_⟩
        · exact ⟨_, rfl, rfl, _, rfl, iteF ⟨_, _, rfl, s'.trans s2, nxt no⟩⟩
        · exact ⟨_, rfl, rfl, _, rfl, iteT ⟨_, rfl, hz⟩⟩
    · rintro σ H' ⟨y2, y3, rfl, s', un⟩
      refine q1 H' s' fun x ⟨p, hp, hx⟩ => ?_
      obtain ⟨i, hi⟩ := List.mem_iff_getElem?.mp hp
      exact un i p x (by rw [prefs_len]; exact (List.getElem?_eq_some_iff.mp hi).1) hi hx
end
end K12
set_option Elab.async false
set_option linter.all false
set_option maxRecDepth 100000
set_option maxHeartbeats 1000000
set_option exponentiation.threshold 20000
namespace K12
open PySem PySem.Spec PyProof.Rows L2 Fen
abbrev sRr : Stmt := topS 40
theorem scRr : FnScope ["lines", "row", "ends"] ["lines", "row"] (defScope sRr) := ⟨rfl, rfl, rfl, by decide +kernel, rfl, by decide +kernel, by decide +kernel⟩
/-- a new list of pieces -/
def PL (K : PySem.W.Frag) (R S : Addr) (A : Int → Int → Prop) (n : Nat) (H : Hp) (Q : VK) : Prop := ∀ H' M ps, Same H H' → H M = none → H' M = some (.lst (prefs ps)) → PcsAt K R S H' ps → (∀ p ∈ ps, PcOk p.2) → Sep ps → ps.length ≤ n → (∀ row x, InPs ps row x ↔ A row x) → Q (.ref M) H'
theorem same_made {H : Hp} {x dx : Addr} {o1 o2 o3 : HO} (nx : H x = none) (nd : H dx = none) : Same H (upd (upd (upd H dx o1) x o2) x o3) := fun b o e => by
  have h1 : b ≠ x := fun z => by rw [z, nx] at e; cases e
  have h2 : b ≠ dx := fun z => by rw [z, nd] at e; cases e
  rw [upd_ne h1, upd_ne h1, upd_ne h2]
  exact e
theorem sep_one {p : Addr × Pc} : Sep [p] := fun i j a b row row' x y l h1 h2 => by
  have := (List.getElem?_eq_some_iff.mp h2).1
  simp at this
  omega
theorem sep_nil : Sep [] := fun i j a b row row' x y l h1 h2 => by simp at h1
theorem inPs_one {p : Addr × Pc} {row x : Int} : InPs [p] row x ↔ PcIn p.2 row x := by
  unfold InPs
  constructor
  · rintro ⟨q, hq, h⟩
    rw [List.mem_singleton.mp hq] at h
    exact h
  · exact fun h => ⟨p, List.mem_singleton_self p, h⟩
theorem inPs_nil {row x : Int} : ¬ InPs [] row x := fun ⟨_, h, _⟩ => absurd h List.not_mem_nil
/-- an end of a row is not far out -/
theorem end_small {l : Ln} {row lo : Int} (h0 : l.1 ≠ 0) (sm : LSm l) (bs : BSm l) (rb : row.natAbs < 2 ^ 1000) : (Lat.reach l.1 l.2.1 l.2.2 row).natAbs < 2 ^ 1200 := by
  unfold Lat.reach
  have h1 : (l.2.1 * row).natAbs < 2 ^ (102 + 1000) := wide_lt sm.2 rb
  have h2 : l.2.2.natAbs < 2 ^ (102 + 1000) := Nat.lt_trans bs (by decide)
  have h3 : (l.2.1 * row - l.2.2).natAbs < 2 ^ 1103 := sub_small h1 h2
  refine Nat.lt_of_le_of_lt (Int.natAbs_ediv_le_natAbs _ _) (Nat.lt_trans h3 (by decide))
section
variable {P : Program} {w : World} {K : PySem.W.Frag} {mg : Str → Option Value} {base : Heap}
def spRr (K : PySem.W.Frag) (R S : Addr) : Sp := fun vs H Q _ => ∃ (L : Addr) (ls : List (Addr × Ln)) (row : Int), vs = [.ref L, .int row] ∧ SqL K H L (lrefs ls) ∧ LnAt K H ls ∧ (∀ l ∈ ls, LSm l.2 ∧ BSm l.2) ∧ row.natAbs < 2 ^ 1000 ∧ ls.length ≤ 10 ∧ (∃ l ∈ ls, 0 < l.2.1) ∧ (∃ l ∈ ls, l.2.1 < 0) ∧
  PL K R S (fun row' x => row' = row ∧ InL (ls.map (·.2)) x row) 1 H Q
theorem ok_rr {f R S fR fI : Addr} {fd fdR fdI : FuncData} {k : Nat} (F : Fun K "row_runs" "row_runs" sRr f fd) (TR : RunT K R) (MR : Mk K R fI) (mR : mg "Run" = some (.ref R)) (OI : FnOk P w K mg base CX0 (k + 1) fI fdI ["self", "start", "step", "many"] (spRunI R)) (bI : Binds K fdI ["self", "start", "step", "many"] [])
    (CF : Cal P w K mg base (k + 1) "field_row" fR fdR ["lines", "row"] (spFr K)) :
    FnOk P w K mg base CX0 (k + 1 + 1 + 1) f fd ["lines", "row"] (spRr K R S) := by
  refine F.ok scRr (fun vs H Q E h => ?_) (fun cdv A outer s H vs Q E hr h => ?_)
  · obtain ⟨L, ls, row, rfl, _⟩ := h
    rfl
  · obtain ⟨L, ls, row, rfl, hL, hT, sm, rb, l10, hp, hn, q⟩ := h
    refine ⟨_, pss_cons (ps_set (i := 2) scRr.nd rfl (.inl rfl) (pe_cal CF (hr.mono (by omega)) (pa_cons (pv 0) (pa_cons (pv 1) pa_nil))))
      (pss_cons (ps_if (pt_cmpR op_isN (pv 2) pe_non (nomark _)) (pss_one (ps_ret (pe_lst pa_nil))) pss_nil)
      (pss_one (ps_ret (pe_lst (pa_cons (pe_make MR OI hr (by rfl) mR bI .nil pass0 (pa_cons (pe_tup (pa_cons (pe_ix ix_tup (pv 2) pe_int (fun _ _ => rfl)) (pa_cons (pv 1) pa_nil))) (pa_cons (pe_tup (pa_cons pe_int (pa_cons pe_int pa_nil)))
          (pa_cons (pe_op op_add (pe_op op_sub (pe_ix ix_tup (pv 2) pe_int (fun _ _ => rfl)) (pe_ix ix_tup (pv 2) pe_int (fun _ _ => rfl))) pe_int) pa_nil)))) pa_nil))))), ?_⟩
    refine ⟨.ref L, rfl, .int row, rfl, L, ls, row, rfl, hL, hT, fun l hl => (sm l hl).1, Nat.lt_trans rb (by decide), l10, hp, hn, fun H1 s1 no => ?_, fun H1 z lo hi s1 hz nz le iff => ?_⟩
    · refine ⟨_, rfl, rfl, _, rfl, iteT ⟨by show 0 ≤ sizeLine; decide, fun M nM => ?_⟩⟩
      exact q _ M [] (s1.trans (same_new nM)) (s1.free nM) upd_same (fun x hx => absurd hx List.not_mem_nil) (fun x hx => absurd hx List.not_mem_nil) sep_nil (by simp) fun row' x => ⟨fun h => absurd h inPs_nil, fun h => absurd h.2 (no x)⟩
    · refine ⟨_, rfl, rfl, _, rfl, iteF ?_⟩
      have zt : SqT K H1 z [.int lo, .int hi] := .inl (.inl hz)
      refine ⟨.ref z, rfl, z, _, 0, .int lo, rfl, rfl, zt, atI_nat (j := 0) rfl, .int row, rfl, by show 2 ≤ sizeLine; decide, fun t1 nt1 => ?_⟩
      have c1 := same_new (o := .tup [.int lo, .int row]) nt1
      have g1 : SqT K (upd H1 t1 (.tup [.int lo, .int row])) t1 [.int lo, .int row] := .inl (.inl upd_same)
      generalize upd H1 t1 (.tup [.int lo, .int row]) = H2 at c1 g1 ⊢
      refine ⟨by show 2 ≤ sizeLine; decide, fun t2 nt2 => ?_⟩
      have c2 := same_new (o := .tup [.int 1, .int 0]) nt2
      have g2 : SqT K (upd H2 t2 (.tup [.int 1, .int 0])) t2 [.int 1, .int 0] := .inl (.inl upd_same)
      generalize upd H2 t2 (.tup [.int 1, .int 0]) = H3 at c2 g2 ⊢
      have z3 := (c1.trans c2).seqT zt
      refine ⟨.ref z, rfl, z, _, 1, .int hi, rfl, rfl, z3, atI_nat (j := 1) rfl, .ref z, rfl, z, _, 0, .int lo, rfl, rfl, z3, atI_nat (j := 0) rfl, _, _, rfl, rfl, _, _, rfl, rfl, fun x dx nx ndx ne => ?_⟩
      refine ⟨x, dx, t1, t2, hi - lo + 1, rfl, upd_same, rfl, ?_⟩
      have c3 := same_made (o1 := .own x) (o2 := .ins R dx []) (o3 := .ins R dx (rf t1 t2 (hi - lo + 1))) nx ndx
      have g3 : (upd (upd (upd H3 dx (.own x)) x (.ins R dx [])) x (.ins R dx (rf t1 t2 (hi - lo + 1)))) x = some (.ins R dx (rf t1 t2 (hi - lo + 1))) := upd_same
      generalize upd (upd (upd H3 dx (.own x)) x (.ins R dx [])) x (.ins R dx (rf t1 t2 (hi - lo + 1))) = H4 at c3 g3 ⊢
      refine ⟨by show 1 ≤ sizeLine; decide, fun M nM => ?_⟩
      have c4 := same_new (o := .lst [V.ref x]) nM
      have sAll := s1.trans (c1.trans (c2.trans c3))
      have bnd : (hi - lo + 1).natAbs < 2 ^ 4000 := by
        obtain ⟨lp, hlp, p0⟩ := hp
        obtain ⟨ln, hln, n0⟩ := hn
        have a1 := (iff lo).mpr ⟨Int.le_refl _, le⟩ lp.2 (List.mem_map.mpr ⟨lp, hlp, rfl⟩)
        have a2 := (iff hi).mpr ⟨le, Int.le_refl _⟩ ln.2 (List.mem_map.mpr ⟨ln, hln, rfl⟩)
        have b1 := (Lat.reach_pos p0).mp a1
        have b2 := (Lat.reach_neg n0).mp a2
        have e1 := end_small (lo := lo) (show lp.2.1 ≠ 0 by omega) (sm lp hlp).1 (sm lp hlp).2 rb
        have e2 := end_small (lo := lo) (show ln.2.1 ≠ 0 by omega) (sm ln hln).1 (sm ln hln).2 rb
        have e3 : (2 : Nat) ^ 1200 * 2 + 1 < 2 ^ 4000 := by decide +kernel
        generalize (2 : Nat) ^ 1200 = X at *
        generalize (2 : Nat) ^ 4000 = Y at *
        omega
      refine q _ M [(x, .run lo row 1 0 (hi - lo + 1))] (sAll.trans c4) (sAll.free nM) upd_same (fun y hy => ?_) (fun y hy => ?_) sep_one (by simp) fun row' px => ?_
      · rw [List.mem_singleton.mp hy]
        exact (RunAt.mk ⟨dx, t1, t2, g3, (c2.trans c3).seqT g1, c3.seqT g2⟩ : RunAt K R _ x lo row 1 0 (hi - lo + 1)).same c4
      · rw [List.mem_singleton.mp hy]
        exact ⟨by omega, bnd, by decide, by decide, by decide, Nat.lt_trans rb (by decide), fun _ => rfl⟩
      · rw [inPs_one]
        show OnRun lo row 1 0 (hi - lo + 1) row' px ↔ row' = row ∧ InL (ls.map (·.2)) px row
        rw [iff]
        constructor
        · rintro ⟨k, k0, k1, h1, h2⟩
          omega
        · rintro ⟨rfl, h1, h2⟩
          exact ⟨px - lo, by omega, by omega, by omega, by omega⟩
end
end K12
set_option Elab.async false
set_option linter.all false
set_option maxRecDepth 100000
set_option maxHeartbeats 1000000
/-! rows of a field: at a height of corners, or strictly between two neighbours -/
namespace Geo
open Hull (P turn Lt)
open Fen (Out)
theorem between {n v : Int} : ∀ {hs : List Int}, (∃ a ∈ hs, n * a ≤ v) → (∃ z ∈ hs, v ≤ n * z) → hs.Pairwise (· < ·) → 0 < n → (∃ h ∈ hs, n * h = v) ∨ ∃ i l u, hs[i]? = some l ∧ hs[i + 1]? = some u ∧ n * l < v ∧ v < n * u
  | [], ⟨_, h, _⟩, _, _, _ => absurd h List.not_mem_nil
  | [x], ⟨a, ha, h1⟩, ⟨z, hz, h2⟩, _, _ => by
    rw [List.mem_singleton.mp ha] at h1
    rw [List.mem_singleton.mp hz] at h2
    exact .inl ⟨x, List.mem_singleton_self x, by omega⟩
  | x :: y :: r, ⟨a, ha, h1⟩, ⟨z, hz, h2⟩, asc, hn => by
    have hx := (List.pairwise_cons.mp asc).1
    by_cases e : n * x = v
    · exact .inl ⟨x, List.mem_cons_self, e⟩
    have xv : n * x < v := by
      rcases List.mem_cons.mp ha with rfl | ha
      · omega
      · have := Int.mul_lt_mul_of_pos_left (hx a ha) hn
        omega
    by_cases yv : v < n * y
    · exact .inr ⟨0, x, y, rfl, rfl, xv, yv⟩
    have hz' : z ∈ y :: r := by
      rcases List.mem_cons.mp hz with rfl | hz
      · omega
      · exact hz
    rcases between ⟨y, List.mem_cons_self, by omega⟩ ⟨z, hz', h2⟩ (List.pairwise_cons.mp asc).2 hn with ⟨h, hh, e2⟩ | ⟨i, l, u, e1, e2, e3⟩
    · exact .inl ⟨h, List.mem_cons_of_mem _ hh, e2⟩
    · exact .inr ⟨i + 1, l, u, e1, e2, e3⟩
/-- rows of two heights, of a height and of what is between, differ -/
theorem asc_lt {hs : List Int} (asc : hs.Pairwise (· < ·)) {i j : Nat} {x y : Int} (hi : hs[i]? = some x) (hj : hs[j]? = some y) : i < j ↔ x < y := by
  have key : ∀ {i j : Nat} {x y : Int}, hs[i]? = some x → hs[j]? = some y → i < j → x < y := fun {i j x y} hi hj h => by
    obtain ⟨li, ei⟩ := List.getElem?_eq_some_iff.mp hi
    obtain ⟨lj, ej⟩ := List.getElem?_eq_some_iff.mp hj
    have := List.pairwise_iff_getElem.mp asc i j li lj h
    rw [ei, ej] at this
    exact this
  constructor
  · exact key hi hj
  · intro h
    rcases Nat.lt_trichotomy i j with q | q | q
    · exact q
    · subst q
      rw [hi] at hj
      cases hj
      omega
    · have := key hj hi q
      omega
/-- a field's stakes: in the rows of its corners, and strictly between them -/
theorem field_rows {cs : List P} {os : List Int} {b n px row : Int} {hs : List Int} (h3 : 3 ≤ cs.length) (O : Out cs) (hn : 0 < n) (asc : hs.Pairwise (· < ·)) (mem : ∀ h, h ∈ hs ↔ ∃ c ∈ cs, c.2 = h) :
    InF n cs os (b * px) (b * row) ↔ ((∃ h ∈ hs, n * h = b * row) ∨ ∃ i l u, hs[i]? = some l ∧ hs[i + 1]? = some u ∧ n * l < b * row ∧ b * row < n * u) ∧ InF n cs os (b * px) (b * row) := by
  constructor
  · intro h
    refine ⟨?_, h⟩
    obtain ⟨up, dn⟩ := h.heights h3 O (Int.le_of_lt hn)
    -- the greatest and the least height
    have top : ∃ z ∈ hs, ∀ c ∈ cs, c.2 ≤ z := by
      have ex : ∀ l : List Int, l ≠ [] → ∃ z ∈ l, ∀ x ∈ l, x ≤ z := fun l => by
        induction l with
        | nil => exact fun z => absurd rfl z
        | cons c l ih =>
          intro _
          by_cases hl : l = []
          · subst hl
            exact ⟨c, List.mem_cons_self, fun d hd => by rw [List.mem_singleton.mp hd]; omega⟩
          · obtain ⟨z, hz, mz⟩ := ih hl
            by_cases q : c ≤ z
            · exact ⟨z, List.mem_cons_of_mem _ hz, fun d hd => (List.mem_cons.mp hd).elim (fun w => by rw [w]; exact q) (mz d)⟩
            · exact ⟨c, List.mem_cons_self, fun d hd => (List.mem_cons.mp hd).elim (fun w => by rw [w]; omega) fun w => by have := mz d w; omega⟩
      obtain ⟨c, hc⟩ : ∃ c, c ∈ cs := List.exists_mem_of_length_pos (by omega)
      have ne : hs ≠ [] := fun z => by
        have := (mem c.2).mpr ⟨c, hc, rfl⟩
        rw [z] at this
        exact absurd this List.not_mem_nil
      obtain ⟨z, hz, mz⟩ := ex hs ne
      exact ⟨z, hz, fun c hc => mz c.2 ((mem c.2).mpr ⟨c, hc, rfl⟩)⟩
    have bot : ∃ z ∈ hs, ∀ c ∈ cs, z ≤ c.2 := by
      have ex : ∀ l : List Int, l ≠ [] → ∃ z ∈ l, ∀ x ∈ l, z ≤ x := fun l => by
        induction l with
        | nil => exact fun z => absurd rfl z
        | cons c l ih =>
          intro _
          by_cases hl : l = []
          · subst hl
            exact ⟨c, List.mem_cons_self, fun d hd => by rw [List.mem_singleton.mp hd]; omega⟩
          · obtain ⟨z, hz, mz⟩ := ih hl
            by_cases q : z ≤ c
            · exact ⟨z, List.mem_cons_of_mem _ hz, fun d hd => (List.mem_cons.mp hd).elim (fun w => by rw [w]; exact q) (mz d)⟩
            · exact ⟨c, List.mem_cons_self, fun d hd => (List.mem_cons.mp hd).elim (fun w => by rw [w]; omega) fun w => by have := mz d w; omega⟩
      obtain ⟨c, hc⟩ : ∃ c, c ∈ cs := List.exists_mem_of_length_pos (by omega)
      have ne : hs ≠ [] := fun z => by
        have := (mem c.2).mpr ⟨c, hc, rfl⟩
        rw [z] at this
        exact absurd this List.not_mem_nil
      obtain ⟨z, hz, mz⟩ := ex hs ne
      exact ⟨z, hz, fun c hc => mz c.2 ((mem c.2).mpr ⟨c, hc, rfl⟩)⟩
    obtain ⟨z, hz, mz⟩ := top
    obtain ⟨a, ha, ma⟩ := bot
    exact between ⟨a, ha, dn a ma⟩ ⟨z, hz, up z mz⟩ asc hn
  · exact fun h => h.2
end Geo
set_option Elab.async false
set_option linter.all false
set_option maxRecDepth 100000
set_option maxHeartbeats 1000000
/-! the stakes of a stretch as a run -/
namespace Lat
/-- a slanting or upright line: the heights with a stake, from a bound to a bound -/
theorem stretch_up {ac up v inv lo last row px : Int} (hu : 0 < up) (hi : up ∣ 1 - inv * ac) :
    (∃ k, 0 ≤ k ∧ k < (last - (lo + (v * inv - lo) % up)) / up + 1 ∧ px = (ac * (lo + (v * inv - lo) % up) - v) / up + k * ac ∧ row = lo + (v * inv - lo) % up + k * up) ↔ (lo ≤ row ∧ row ≤ last) ∧ ac * row - up * px = v := by
  obtain ⟨fs, hf⟩ : ∃ fs, fs = lo + (v * inv - lo) % up := ⟨_, rfl⟩
  have f1 : lo ≤ fs ∧ up ∣ fs - v * inv := (from_rem hu).mpr ⟨0, by omega, by rw [hf]; omega⟩
  have f2 : up ∣ ac * fs - v := (on_line hi).mpr f1.2
  have f3 := Int.mul_ediv_cancel' f2
  rw [← hf]
  constructor
  · rintro ⟨k, k0, k1, rfl, rfl⟩
    have kz : 0 ≤ k * up := Int.mul_nonneg k0 (by omega)
    refine ⟨⟨by omega, (to_last hu).mpr k1⟩, ?_⟩
    have e : ac * (fs + k * up) - up * ((ac * fs - v) / up + k * ac) = ac * fs - up * ((ac * fs - v) / up) := by grind
    rw [e, f3]
    omega
  · rintro ⟨⟨h1, h2⟩, h3⟩
    have d : up ∣ ac * row - v := ⟨px, by omega⟩
    obtain ⟨k, k0, ek⟩ := (from_rem (lo := lo) hu).mp ⟨h1, (on_line hi).mp d⟩
    rw [← hf] at ek
    refine ⟨k, k0, (to_last hu).mp (by rw [← ek]; exact h2), ?_, ek⟩
    have e : up * px = up * ((ac * fs - v) / up + k * ac) := by
      rw [Int.mul_add, f3, show up * px = ac * row - v by omega, ek]
      grind
    exact Int.eq_of_mul_eq_mul_left (show up ≠ 0 by omega) e
/-- on the line through two grown ends -/
theorem line_val {b n ac up x0 y0 px row : Int} (hb : 0 < b) : ac * (b * row - n * y0) - up * (b * px - n * x0) = 0 ↔ n * (ac * y0 - up * x0) % b = 0 ∧ ac * row - up * px = n * (ac * y0 - up * x0) / b := by
  have e : ac * (b * row - n * y0) - up * (b * px - n * x0) = b * (ac * row - up * px) - n * (ac * y0 - up * x0) := by grind
  have de := Int.mul_ediv_add_emod (n * (ac * y0 - up * x0)) b
  rw [e]
  generalize ac * row - up * px = u at *
  generalize n * (ac * y0 - up * x0) = w at *
  constructor
  · intro h
    have hw : w = b * u := by omega
    subst hw
    exact ⟨Int.mul_emod_right _ _, by rw [Int.mul_ediv_cancel_left _ (by omega)]⟩
  · rintro ⟨h1, rfl⟩
    omega
end Lat
set_option Elab.async false
set_option linter.all false
set_option maxRecDepth 100000
set_option maxHeartbeats 1000000
/-! between the ends of a stretch, by heights -/
namespace Geo
theorem sg_pos {dx dy u v : Int} (hy : 0 < dy) (hx : 0 < dx) (e : dx * v = dy * u) : (0 < v ↔ 0 < u) ∧ (v < 0 ↔ u < 0) := by
  have a : ∀ {dx dy u v : Int}, 0 < dy → 0 < dx → dx * v = dy * u → 0 < v → 0 < u := fun {dx dy u v} hy hx e h => by
    have : 0 < dy * u := by rw [← e]; exact Int.mul_pos hx h
    exact Int.pos_of_mul_pos_right this hy
  refine ⟨⟨a hy hx e, a hx hy e.symm⟩, ⟨fun h => ?_, fun h => ?_⟩⟩
  · have := a (u := -u) (v := -v) hy hx (by rw [Int.mul_neg, Int.mul_neg, e]) (by omega)
    omega
  · have := a (u := -v) (v := -u) hx hy (by rw [Int.mul_neg, Int.mul_neg, e]) (by omega)
    omega
theorem sg_neg {dx dy u v : Int} (hy : 0 < dy) (hx : dx < 0) (e : dx * v = dy * u) : (0 < v ↔ u < 0) ∧ (v < 0 ↔ 0 < u) := by
  obtain ⟨h1, h2⟩ := sg_pos (dx := -dx) (dy := dy) (u := -u) (v := v) hy (by omega) (by rw [Int.neg_mul, Int.mul_neg, e])
  exact ⟨h1.trans ⟨fun h => by omega, fun h => by omega⟩, h2.trans ⟨fun h => by omega, fun h => by omega⟩⟩
theorem sg_zero {dx dy u : Int} (hy : 0 < dy) (e : dx * 0 = dy * u) : u = 0 := by
  rw [Int.mul_zero] at e
  rcases Int.mul_eq_zero.mp e.symm with h | h
  · omega
  · exact h
/-- low and high are the ends by heights, first and last by Lt; u and v lead from low to the place -/
theorem ends_by_height {dx dy u v N : Int} (hy : 0 < dy) (e : dx * v = dy * u) :
    ((0 ≤ dx → (¬ (u < 0 ∨ (u = 0 ∧ v < 0)) ∧ ¬ (0 < u - N * dx ∨ (u - N * dx = 0 ∧ 0 < v - N * dy)) ↔ 0 ≤ v ∧ v ≤ N * dy)) ∧ (dx < 0 → (¬ (u - N * dx < 0 ∨ (u - N * dx = 0 ∧ v - N * dy < 0)) ∧ ¬ (0 < u ∨ (u = 0 ∧ 0 < v)) ↔ 0 ≤ v ∧ v ≤ N * dy))) ∧ ((u = 0 ∧ v = 0) ↔ v = 0) ∧ ((u - N * dx = 0 ∧ v - N * dy = 0) ↔ v = N * dy) := by
  have e2 : dx * (v - N * dy) = dy * (u - N * dx) := by grind
  have z1 : v = 0 → u = 0 := fun h => sg_zero hy (by rw [h] at e; exact e)
  have z2 : v - N * dy = 0 → u - N * dx = 0 := fun h => sg_zero hy (by rw [h] at e2; exact e2)
  generalize N * dx = a at *
  generalize N * dy = c at *
  refine ⟨⟨fun hx => ?_, fun hx => ?_⟩, ⟨fun h => h.2, fun h => ⟨z1 h, h⟩⟩, ⟨fun h => by omega, fun h => ⟨z2 (by omega), by omega⟩⟩⟩
  · by_cases q : dx = 0
    · subst q
      rw [Int.zero_mul] at e e2
      have u0 : u = 0 := by
        rcases Int.mul_eq_zero.mp e.symm with h | h
        · omega
        · exact h
      have u1 : u - a = 0 := by
        rcases Int.mul_eq_zero.mp e2.symm with h | h
        · omega
        · exact h
      omega
    · obtain ⟨p1, p2⟩ := sg_pos hy (show 0 < dx by omega) e
      obtain ⟨p3, p4⟩ := sg_pos hy (show 0 < dx by omega) e2
      omega
  · obtain ⟨p1, p2⟩ := sg_neg hy hx e
    obtain ⟨p3, p4⟩ := sg_neg hy hx e2
    omega
end Geo
set_option Elab.async false
set_option linter.all false
set_option maxRecDepth 100000
set_option maxHeartbeats 1000000
/-! the places of a stretch between two ends -/
namespace Geo
open Hull (P turn Lt)
def Bt (a b x : Int) : Prop := (a ≤ x ∧ x ≤ b) ∨ (b ≤ x ∧ x ≤ a)
/-- between two ends, without those that are left out -/
def OnS (n : Int) (p q : P) (f1 f2 : Bool) (X Y : Int) : Prop :=
  (n * q.1 - n * p.1) * (Y - n * p.2) - (n * q.2 - n * p.2) * (X - n * p.1) = 0 ∧ Bt (n * p.1) (n * q.1) X ∧ Bt (n * p.2) (n * q.2) Y ∧ (f1 = true → ¬ (X = n * p.1 ∧ Y = n * p.2)) ∧ (f2 = true → ¬ (X = n * q.1 ∧ Y = n * q.2))
theorem OnS.symm {n : Int} {p q : P} {f1 f2 : Bool} {X Y : Int} (h : OnS n p q f1 f2 X Y) : OnS n q p f2 f1 X Y := by
  obtain ⟨h1, h2, h3, h4, h5⟩ := h
  exact ⟨by grind, h2.symm, h3.symm, h5, h4⟩
theorem onS_comm {n : Int} {p q : P} {f1 f2 : Bool} {X Y : Int} : OnS n p q f1 f2 X Y ↔ OnS n q p f2 f1 X Y := ⟨OnS.symm, OnS.symm⟩
theorem bt_slant {dx dy u v N : Int} (hy : 0 < dy) (e : dx * v = dy * u) (h0 : 0 ≤ v) (h1 : v ≤ N * dy) : Bt 0 (N * dx) u := by
  have c : ∀ a b : Int, dy * a ≤ dy * b → a ≤ b := fun a b h => Int.le_of_mul_le_mul_left h hy
  rcases Int.le_total 0 dx with h | h
  · refine .inl ⟨c _ _ ?_, c _ _ ?_⟩
    · rw [Int.mul_zero, ← e]
      exact Int.mul_nonneg h h0
    · rw [← e, show dy * (N * dx) = dx * (N * dy) by grind]
      exact Int.mul_le_mul_of_nonneg_left h1 h
  · refine .inr ⟨c _ _ ?_, c _ _ ?_⟩
    · rw [← e, show dy * (N * dx) = dx * (N * dy) by grind]
      exact Int.mul_le_mul_of_nonpos_left h h1
    · rw [Int.mul_zero, ← e]
      exact Int.mul_nonpos_of_nonpos_of_nonneg h h0
theorem zero_of {dy u : Int} (hy : 0 < dy) (e : dy * u = 0) : u = 0 := by
  rcases Int.mul_eq_zero.mp e with h | h
  · omega
  · exact h
theorem flag_lo {f : Bool} {b n y row : Int} : (if f = true then n * y < b * row else n * y ≤ b * row) ↔ 0 ≤ b * row - n * y ∧ (f = true → b * row - n * y ≠ 0) := by
  cases f <;> simp <;> omega
theorem flag_hi {f : Bool} {b n y row : Int} : (if f = true then b * row < n * y else b * row ≤ n * y) ↔ b * row ≤ n * y ∧ (f = true → b * row ≠ n * y) := by
  cases f <;> simp <;> omega
theorem onS_slant {b n g ac up : Int} {p q : P} {f1 f2 : Bool} {px row : Int} (hb : 0 < b) (hn : 0 < n) (hg : 0 < g) (e1 : g * ac = q.1 - p.1) (e2 : g * up = q.2 - p.2) (hu : 0 < up) (hr : n * (ac * p.2 - up * p.1) % b = 0) :
    OnS n p q f1 f2 (b * px) (b * row) ↔ (Lat.leastFrom (n * p.2) b f1 ≤ row ∧ row ≤ Lat.greatestTo (n * q.2) b f2) ∧ ac * row - up * px = n * (ac * p.2 - up * p.1) / b := by
  have lv := Lat.line_val (b := b) (n := n) (ac := ac) (up := up) (x0 := p.1) (y0 := p.2) (px := px) (row := row) hb
  rw [Lat.least_le hb, Lat.le_greatest hb, flag_lo, flag_hi]
  have hdy : 0 < q.2 - p.2 := by rw [← e2]; exact Int.mul_pos hg hu
  have t : (n * q.1 - n * p.1) * (b * row - n * p.2) - (n * q.2 - n * p.2) * (b * px - n * p.1) = n * g * (ac * (b * row - n * p.2) - up * (b * px - n * p.1)) := by
    have a1 : n * q.1 - n * p.1 = n * (g * ac) := by rw [e1]; grind
    have a2 : n * q.2 - n * p.2 = n * (g * up) := by rw [e2]; grind
    rw [a1, a2]
    grind
  have ng : 0 < n * g := Int.mul_pos hn hg
  have tz : (n * q.1 - n * p.1) * (b * row - n * p.2) - (n * q.2 - n * p.2) * (b * px - n * p.1) = 0 ↔ ac * row - up * px = n * (ac * p.2 - up * p.1) / b := by
    rw [t]
    constructor
    · exact fun h => (lv.mp (zero_of ng h)).2
    · intro h
      rw [lv.mpr ⟨hr, h⟩, Int.mul_zero]
  unfold OnS
  rw [tz]
  -- the place from the lower end
  have key : ac * row - up * px = n * (ac * p.2 - up * p.1) / b → (q.1 - p.1) * (b * row - n * p.2) = (q.2 - p.2) * (b * px - n * p.1) := fun h => by
    have z := lv.mpr ⟨hr, h⟩
    rw [← e1, ← e2]
    grind
  constructor
  · rintro ⟨h1, h2, h3, h4, h5⟩
    have k := key h1
    have hh : n * p.2 < n * q.2 := Int.mul_lt_mul_of_pos_left (by omega) hn
    have h3' : n * p.2 ≤ b * row ∧ b * row ≤ n * q.2 := h3.elim id fun z => by omega
    refine ⟨⟨⟨by omega, fun f z => h4 f ⟨?_, by omega⟩⟩, h3'.2, fun f z => h5 f ⟨?_, z⟩⟩, h1⟩
    · rw [z, Int.mul_zero] at k
      have := zero_of hdy k.symm
      omega
    · have k2 : (q.2 - p.2) * (b * px - n * q.1) = 0 := by
        have : b * row - n * p.2 = n * (q.2 - p.2) := by rw [z]; grind
        rw [this] at k
        grind
      have := zero_of hdy k2
      omega
  · rintro ⟨⟨⟨h1, h2⟩, h3, h4⟩, h5⟩
    have k := key h5
    have bs := bt_slant (N := n) hdy k h1 (by rw [Int.mul_sub]; omega)
    refine ⟨h5, ?_, .inl ⟨by omega, h3⟩, fun f z => h2 f (by omega), fun f z => h4 f z.2⟩
    rw [Int.mul_sub] at bs
    unfold Bt at bs ⊢
    omega
theorem onS_flat {b n : Int} {p q : P} {f1 f2 : Bool} {px row : Int} (hb : 0 < b) (hn : 0 < n) (e1 : p.1 < q.1) (e2 : q.2 = p.2) (hr : n * p.2 % b = 0) :
    OnS n p q f1 f2 (b * px) (b * row) ↔ (Lat.leastFrom (n * p.1) b f1 ≤ px ∧ px ≤ Lat.greatestTo (n * q.1) b f2) ∧ row = n * p.2 / b := by
  rw [Lat.least_le hb, Lat.le_greatest hb, flag_lo, flag_hi]
  have hx : n * p.1 < n * q.1 := Int.mul_lt_mul_of_pos_left e1 hn
  have rw1 : row = n * p.2 / b ↔ b * row = n * p.2 := by
    have := Int.mul_ediv_add_emod (n * p.2) b
    rw [hr] at this
    constructor
    · rintro rfl
      omega
    · intro h
      rw [← h, Int.mul_ediv_cancel_left _ (by omega)]
  unfold OnS
  rw [rw1, e2, Int.sub_self, Int.zero_mul, Int.sub_zero]
  constructor
  · rintro ⟨h1, h2, h3, h4, h5⟩
    have hy : b * row = n * p.2 := by
      have := zero_of (show 0 < n * q.1 - n * p.1 by omega) h1
      omega
    have h2' : n * p.1 ≤ b * px ∧ b * px ≤ n * q.1 := h2.elim id fun z => by omega
    exact ⟨⟨⟨by omega, fun f z => h4 f ⟨by omega, hy⟩⟩, h2'.2, fun f z => h5 f ⟨z, hy⟩⟩, hy⟩
  · rintro ⟨⟨⟨h1, h2⟩, h3, h4⟩, h5⟩
    refine ⟨by rw [h5, Int.sub_self, Int.mul_zero], .inl ⟨by omega, h3⟩, .inl ⟨by omega, by omega⟩, fun f z => h2 f (by omega), fun f z => h4 f z.1⟩
/-- no places at all -/
theorem onS_none {b n g ac up : Int} {p q : P} {f1 f2 : Bool} {px row : Int} (hb : 0 < b) (hn : 0 < n) (hg : 0 < g) (e1 : g * ac = q.1 - p.1) (e2 : g * up = q.2 - p.2) (hr : n * (ac * p.2 - up * p.1) % b ≠ 0) : ¬ OnS n p q f1 f2 (b * px) (b * row) := by
  rintro ⟨h1, _⟩
  have lv := Lat.line_val (b := b) (n := n) (ac := ac) (up := up) (x0 := p.1) (y0 := p.2) (px := px) (row := row) hb
  have t : (n * q.1 - n * p.1) * (b * row - n * p.2) - (n * q.2 - n * p.2) * (b * px - n * p.1) = n * g * (ac * (b * row - n * p.2) - up * (b * px - n * p.1)) := by
    have a1 : n * q.1 - n * p.1 = n * (g * ac) := by rw [e1]; grind
    have a2 : n * q.2 - n * p.2 = n * (g * up) := by rw [e2]; grind
    rw [a1, a2]
    grind
  rw [t] at h1
  exact hr (lv.mp (zero_of (Int.mul_pos hn hg) h1)).1
end Geo
namespace Geo
open Hull (P turn Lt)
/-- between two ends in their order -/
theorem onS_lt {n : Int} {p q : P} {f1 f2 : Bool} {X Y : Int} (hn : 0 < n) (l : Lt p q) :
    OnS n p q f1 f2 X Y ↔ turn (n * p.1, n * p.2) (n * q.1, n * q.2) (X, Y) = 0 ∧ ¬ Lt (X, Y) (n * p.1, n * p.2) ∧ ¬ Lt (n * q.1, n * q.2) (X, Y) ∧ (f1 = true → ¬ (X = n * p.1 ∧ Y = n * p.2)) ∧ (f2 = true → ¬ (X = n * q.1 ∧ Y = n * q.2)) := by
  unfold OnS turn
  simp only
  constructor
  · rintro ⟨h1, h2, h3, h4, h5⟩
    refine ⟨h1, ?_, ?_, h4, h5⟩
    · unfold Lt at *
      simp only at *
      rcases l with l | ⟨l1, l2⟩
      · have hx : n * p.1 < n * q.1 := Int.mul_lt_mul_of_pos_left l hn
        have h2' : n * p.1 ≤ X ∧ X ≤ n * q.1 := h2.elim id fun z => by omega
        rintro (z | ⟨z1, z2⟩)
        · omega
        · rw [z1, Int.sub_self, Int.mul_zero, Int.sub_zero] at h1
          have := zero_of (show 0 < n * q.1 - n * p.1 by omega) h1
          omega
      · have hy : n * p.2 < n * q.2 := Int.mul_lt_mul_of_pos_left l2 hn
        have h3' : n * p.2 ≤ Y ∧ Y ≤ n * q.2 := h3.elim id fun z => by omega
        rw [← l1] at h2
        have : X = n * p.1 := by unfold Bt at h2; omega
        omega
    · unfold Lt at *
      simp only at *
      rcases l with l | ⟨l1, l2⟩
      · have hx : n * p.1 < n * q.1 := Int.mul_lt_mul_of_pos_left l hn
        have h2' : n * p.1 ≤ X ∧ X ≤ n * q.1 := h2.elim id fun z => by omega
        rintro (z | ⟨z1, z2⟩)
        · omega
        · have e : (n * q.1 - n * p.1) * (Y - n * q.2) = 0 := by rw [← z1] at h1; grind
          have := zero_of (show 0 < n * q.1 - n * p.1 by omega) e
          omega
      · have hy : n * p.2 < n * q.2 := Int.mul_lt_mul_of_pos_left l2 hn
        have h3' : n * p.2 ≤ Y ∧ Y ≤ n * q.2 := h3.elim id fun z => by omega
        rw [← l1] at h2 ⊢
        have : X = n * p.1 := by unfold Bt at h2; omega
        omega
  · rintro ⟨h1, h2, h3, h4, h5⟩
    have eX : n * q.1 - n * p.1 = n * (q.1 - p.1) := by grind
    have eY : n * q.2 - n * p.2 = n * (q.2 - p.2) := by grind
    have k : (q.2 - p.2) * (X - n * p.1) = (q.1 - p.1) * (Y - n * p.2) := by
      have : n * ((q.1 - p.1) * (Y - n * p.2) - (q.2 - p.2) * (X - n * p.1)) = 0 := by rw [eX, eY] at h1; grind
      have := zero_of hn this
      omega
    unfold Lt at l h2 h3
    simp only at l h2 h3
    rcases l with l | ⟨l1, l2⟩
    · have bs := bt_slant (dx := q.2 - p.2) (dy := q.1 - p.1) (u := Y - n * p.2) (v := X - n * p.1) (N := n) (by omega) k (by omega) (by rw [← eX]; omega)
      refine ⟨h1, .inl ⟨by omega, by omega⟩, ?_, h4, h5⟩
      rw [← eY] at bs
      unfold Bt at bs ⊢
      omega
    · rw [show q.1 - p.1 = 0 by omega, Int.zero_mul] at k
      have ux := zero_of (show 0 < q.2 - p.2 by omega) k
      have hq : n * q.1 = n * p.1 := by rw [← l1]
      exact ⟨h1, .inl ⟨by omega, by omega⟩, .inl ⟨by omega, by omega⟩, h4, h5⟩
end Geo
set_option Elab.async false
set_option linter.all false
set_option maxRecDepth 100000
set_option maxHeartbeats 1000000
/-! bounds to the side, and that two lines leave no gap below nought -/
namespace Geo
open Hull (P turn Lt)
open Lat Fen
theorem InF.heightsL {t x y : Int} {cs : List P} {os : List Int} (h3 : 3 ≤ cs.length) (hl : ∀ i j a b d, i < cs.length → j < cs.length → cs[i]? = some a → cs[(i + 1) % cs.length]? = some b → cs[j]? = some d → j ≠ i → j ≠ (i + 1) % cs.length → 0 < turn a b d) (ht : 0 ≤ t) (h : InF t cs os x y) : (∀ m, (∀ c ∈ cs, c.2 ≤ m) → y ≤ t * m) ∧ (∀ m, (∀ c ∈ cs, m ≤ c.2) → t * m ≤ y) := by
  have prev : ∀ k b, cs[k]? = some b → ∃ i a e, i < cs.length ∧ k < cs.length ∧ cs[i]? = some a ∧ (i + 1) % cs.length = k ∧ cs[(k + 1) % cs.length]? = some e ∧ 0 < turn a b e := fun k b ek => by
    have lk : k < cs.length := (List.getElem?_eq_some_iff.mp ek).1
    have lp : (k + (cs.length - 1)) % cs.length < cs.length := Nat.mod_lt _ (by omega)
    have en : ((k + (cs.length - 1)) % cs.length + 1) % cs.length = k := by
      rw [Nat.mod_add_mod, show k + (cs.length - 1) + 1 = k + cs.length by omega, Nat.add_mod_right, Nat.mod_eq_of_lt lk]
    refine ⟨_, _, _, lp, lk, List.getElem?_eq_getElem lp, en, List.getElem?_eq_getElem (nx_lt h3 k), ?_⟩
    refine hl _ _ _ _ _ lp (nx_lt h3 k) (List.getElem?_eq_getElem lp) (by rw [en]; exact ek) (List.getElem?_eq_getElem (nx_lt h3 k)) (fun z => ?_) (by rw [en]; exact nx_ne h3 lk)
    exact nx_two h3 lp lk en.symm z
  have both : ∀ k b, cs[k]? = some b → ∃ a e, a ∈ cs ∧ e ∈ cs ∧ 0 < turn a b e ∧ 0 ≤ ff t a b x y ∧ 0 ≤ ff t b e x y := fun k b ek => by
    obtain ⟨i, a, e, li, lk, ea, en, ee, tu⟩ := prev k b ek
    exact ⟨a, e, List.mem_of_getElem? ea, List.mem_of_getElem? ee, tu, (h i a b li ea (by rw [en]; exact ek)).1, (h k b e lk ek ee).1⟩
  constructor
  · intro m hm
    -- a corner as high as any
    obtain ⟨b, hb, mx⟩ : ∃ b ∈ cs, ∀ c ∈ cs, c.2 ≤ b.2 := by
      have : ∀ l : List P, l ≠ [] → ∃ b ∈ l, ∀ c ∈ l, c.2 ≤ b.2 := fun l => by
        induction l with
        | nil => exact fun z => absurd rfl z
        | cons c l ih =>
          intro _
          by_cases hnil : l = []
          · subst hnil
            exact ⟨c, List.mem_cons_self, fun d hd => by rw [List.mem_singleton.mp hd]; omega⟩
          · obtain ⟨b, hb, mb⟩ := ih hnil
            by_cases q : c.2 ≤ b.2
            · exact ⟨b, List.mem_cons_of_mem _ hb, fun d hd => (List.mem_cons.mp hd).elim (fun z => by rw [z]; exact q) (mb d)⟩
            · exact ⟨c, List.mem_cons_self, fun d hd => (List.mem_cons.mp hd).elim (fun z => by rw [z]; omega) fun z => by have := mb d z; omega⟩
      exact this cs fun z => by rw [z] at h3; simp at h3
    obtain ⟨k, ek⟩ := List.mem_iff_getElem?.mp hb
    obtain ⟨a, e, ha, he, tu, f1, f2⟩ := both k b ek
    have z := top_bound (mx a ha) (mx e he) tu f1 f2
    have := Int.mul_le_mul_of_nonneg_left (hm b hb) ht
    omega
  · intro m hm
    obtain ⟨b, hb, mx⟩ : ∃ b ∈ cs, ∀ c ∈ cs, b.2 ≤ c.2 := by
      have : ∀ l : List P, l ≠ [] → ∃ b ∈ l, ∀ c ∈ l, b.2 ≤ c.2 := fun l => by
        induction l with
        | nil => exact fun z => absurd rfl z
        | cons c l ih =>
          intro _
          by_cases hnil : l = []
          · subst hnil
            exact ⟨c, List.mem_cons_self, fun d hd => by rw [List.mem_singleton.mp hd]; omega⟩
          · obtain ⟨b, hb, mb⟩ := ih hnil
            by_cases q : b.2 ≤ c.2
            · exact ⟨b, List.mem_cons_of_mem _ hb, fun d hd => (List.mem_cons.mp hd).elim (fun z => by rw [z]; exact q) (mb d)⟩
            · exact ⟨c, List.mem_cons_self, fun d hd => (List.mem_cons.mp hd).elim (fun z => by rw [z]; omega) fun z => by have := mb d z; omega⟩
      exact this cs fun z => by rw [z] at h3; simp at h3
    obtain ⟨k, ek⟩ := List.mem_iff_getElem?.mp hb
    obtain ⟨a, e, ha, he, tu, f1, f2⟩ := both k b ek
    have z := low_bound (mx a ha) (mx e he) tu f1 f2
    have := Int.mul_le_mul_of_nonneg_left (hm b hb) ht
    omega
/-- a quarter turn -/
def rot (p : P) : P := (-p.2, p.1)
theorem turn_rot (a b c : P) : turn (rot a) (rot b) (rot c) = turn a b c := by
  unfold turn rot
  simp only
  grind
theorem ff_rot (t : Int) (a b : P) (x y : Int) : ff t (rot a) (rot b) (-y) x = ff t a b x y := by
  unfold ff rot
  simp only
  grind
theorem InF.widths {t x y : Int} {cs : List P} {os : List Int} (h3 : 3 ≤ cs.length) (O : Out cs) (ht : 0 ≤ t) (h : InF t cs os x y) : (∀ m, (∀ c ∈ cs, c.1 ≤ m) → x ≤ t * m) ∧ (∀ m, (∀ c ∈ cs, m ≤ c.1) → t * m ≤ x) := by
  have back : ∀ {k : Nat} {c : P}, (cs.map rot)[k]? = some c → ∃ d, cs[k]? = some d ∧ c = rot d := fun {k c} e => by
    rw [List.getElem?_map] at e
    obtain ⟨d, hd, ed⟩ := Option.map_eq_some_iff.mp e
    exact ⟨d, hd, ed.symm⟩
  have hI : InF t (cs.map rot) os (-y) x := fun i a b hi ea eb => by
    rw [List.length_map] at hi eb
    obtain ⟨a', ha, rfl⟩ := back ea
    obtain ⟨b', hb, rfl⟩ := back eb
    rw [ff_rot]
    exact h i a' b' hi ha hb
  have z := InF.heightsL (cs := cs.map rot) (by rw [List.length_map]; exact h3) (fun i j a b d hi hj ea eb ed n1 n2 => by
    rw [List.length_map] at hi hj eb n2
    obtain ⟨a', ha, rfl⟩ := back ea
    obtain ⟨b', hb, rfl⟩ := back eb
    obtain ⟨d', hd, rfl⟩ := back ed
    rw [turn_rot]
    exact O.left i j a' b' d' hi hj ha hb hd n1 n2) ht hI
  refine ⟨fun m hm => z.1 m fun c hc => ?_, fun m hm => z.2 m fun c hc => ?_⟩
  · obtain ⟨d, hd, rfl⟩ := List.mem_map.mp hc
    exact hm d hd
  · obtain ⟨d, hd, rfl⟩ := List.mem_map.mp hc
    exact hm d hd
/-- strictly between two heights no place is right of the one line and left of the other -/
theorem no_gap {cs : List P} {os : List Int} {b n low high row : Int} {r l : Nat} {cR dR cL dL : P} (h3 : 3 ≤ cs.length) (O : Out cs) (hb : 0 < b) (hn : 0 < n) (hr : r < cs.length) (hl : l < cs.length) (er : cs[r]? = some cR) (er' : cs[(r + 1) % cs.length]? = some dR) (el : cs[l]? = some cL) (el' : cs[(l + 1) % cs.length]? = some dL)
    (r1 : cR.2 ≤ low) (r2 : high ≤ dR.2) (l1 : dL.2 ≤ low) (l2 : high ≤ cL.2) (y1 : n * low < b * row) (y2 : b * row < n * high) (pL : 0 < (lnOf b n cs os l).1) (pR : (lnOf b n cs os r).1 < 0) :
    -reach (lnOf b n cs os l).1 (lnOf b n cs os l).2.1 (lnOf b n cs os l).2.2 row ≤ reach (lnOf b n cs os r).1 (lnOf b n cs os r).2.1 (lnOf b n cs os r).2.2 row + 1 := by
  refine Classical.byContradiction fun bad => ?_
  have nR := (not_congr ((line_key (os := os) (b := b) (n := n) (x := reach (lnOf b n cs os r).1 (lnOf b n cs os r).2.1 (lnOf b n cs os r).2.2 row + 1) (y := row) h3 O hb hr er er').trans (reach_neg pR))).mpr (by omega)
  have nL := (not_congr ((line_key (os := os) (b := b) (n := n) (x := reach (lnOf b n cs os r).1 (lnOf b n cs os r).2.1 (lnOf b n cs os r).2.2 row + 1) (y := row) h3 O hb hl el el').trans (reach_pos pL))).mpr (by omega)
  generalize b * (reach (lnOf b n cs os r).1 (lnOf b n cs os r).2.1 (lnOf b n cs os r).2.2 row + 1) = X at nR nL
  have fR : ff n cR dR X (b * row) ≤ 0 := by
    refine Classical.byContradiction fun z => nR ⟨by omega, fun _ => by omega⟩
  have fL : ff n cL dL X (b * row) ≤ 0 := by
    refine Classical.byContradiction fun z => nL ⟨by omega, fun _ => by omega⟩
  have lh : low < high := by
    have : n * low < n * high := by omega
    exact Int.lt_of_mul_lt_mul_left this (by omega)
  have ne : r ≠ l := fun z => by
    subst z
    rw [er] at el
    rw [er'] at el'
    cases el
    cases el'
    omega
  obtain ⟨q1, q2, q3⟩ := ends_left h3 O hl hr ne el el' er er'
  have m1 := Int.mul_le_mul_of_nonneg_left r1 (Int.le_of_lt hn)
  have m2 := Int.mul_le_mul_of_nonneg_left r2 (Int.le_of_lt hn)
  have e := ff_right n cL dL cR dR X (b * row)
  have z1 : 0 ≤ (n * dR.2 - b * row) * turn cL dL cR := Int.mul_nonneg (by omega) q1
  have z2 : 0 ≤ (b * row - n * cR.2) * turn cL dL dR := Int.mul_nonneg (by omega) q2
  have z3 : 0 ≤ (dL.2 - cL.2) * ff n cR dR X (b * row) := Int.mul_nonneg_of_nonpos_of_nonpos (by omega) fR
  have z4 : 0 < (n * dR.2 - b * row) * turn cL dL cR ∨ 0 < (b * row - n * cR.2) * turn cL dL dR := q3.imp (fun h => Int.mul_pos (by omega) h) fun h => Int.mul_pos (by omega) h
  have z5 : (dR.2 - cR.2) * ff n cL dL X (b * row) ≤ 0 := Int.mul_nonpos_of_nonneg_of_nonpos (by omega) fL
  omega
end Geo
set_option Elab.async false
set_option linter.all false
set_option maxRecDepth 100000
set_option maxHeartbeats 1000000
set_option exponentiation.threshold 20000
namespace K12
open PySem PySem.Spec PyProof.Rows L2 Fen
abbrev sSb : Stmt := topS 41
abbrev nSb : List Str := ["fence", "size", "lines", "low", "high", "bottom", "corners", "_", "first", "last", "left", "right", "side", "tail", "head"]
theorem scSb : FnScope nSb ["fence", "size", "lines", "low", "high"] (defScope sSb) := ⟨rfl, rfl, rfl, by decide +kernel, rfl, by decide +kernel, by decide +kernel⟩
/-- a side that leads up, down, over all between two heights -/
def UpX (ks : Pts) (low high : Int) (r : Nat) : Prop := ∃ c d, ks[r]? = some c ∧ ks[(r + 1) % ks.length]? = some d ∧ c.2.2 ≤ low ∧ high ≤ d.2.2
def DnX (ks : Pts) (low high : Int) (r : Nat) : Prop := ∃ c d, ks[r]? = some c ∧ ks[(r + 1) % ks.length]? = some d ∧ d.2.2 ≤ low ∧ high ≤ c.2.2
/-- a variable holds the line of such a side, or there was none so far -/
def Held (ls : List (Addr × Ln)) (X : Nat → Prop) (e : Nat) (v : V) : Prop := (∃ r x, ls[r]? = some x ∧ X r ∧ v = .ref x.1) ∨ (v = .non ∧ ∀ r, r < e → ¬ X r)
theorem Held.next {ls : List (Addr × Ln)} {X : Nat → Prop} {e : Nat} {v : V} (h : Held ls X e v) (n : ¬ X e) : Held ls X (e + 1) v := h.imp id fun ⟨h1, h2⟩ => ⟨h1, fun r hr => by
  by_cases q : r = e
  · rw [q]
    exact n
  · exact h2 r (by omega)⟩
/-- a bound is not far out -/
theorem least_small {t b : Int} {o : Bool} {k : Nat} (h : t.natAbs < 2 ^ k) : (Lat.leastFrom t b o).natAbs < 2 ^ (k + 1) := by
  have h1 := Int.natAbs_ediv_le_natAbs t b
  have h2 := Int.natAbs_ediv_le_natAbs (-t) b
  have h3 : 0 < 2 ^ k := Nat.two_pow_pos k
  rw [Nat.pow_succ]
  unfold Lat.leastFrom
  split <;> omega
theorem lnOf_small {b n : Int} {cs : List Hull.P} {os : List Int} {i : Nat} (nb : n.natAbs < 2 ^ 100) (h3 : 3 ≤ cs.length) (O : Out cs) (co : ∀ p ∈ cs, Cor p) (hi : i < cs.length) : LSm (Geo.lnOf b n cs os i) ∧ BSm (Geo.lnOf b n cs os i) := by
  have lj : (i + 1) % cs.length < cs.length := Nat.mod_lt _ (by omega)
  have ei : cs[i]? = some cs[i] := List.getElem?_eq_getElem hi
  have ej : cs[(i + 1) % cs.length]? = some cs[(i + 1) % cs.length] := List.getElem?_eq_getElem lj
  have ne := Geo.ends_ne h3 O hi ei ej
  have ca := co _ (List.getElem_mem hi)
  have cb := co _ (List.getElem_mem lj)
  obtain ⟨sA, sU⟩ := Geo.ln_small ne ca cb
  obtain ⟨sx, sy⟩ := cor_small ca
  have w1 := wide_lt sA (Nat.lt_of_lt_of_le sx (show 2 ^ 100 ≤ 2 ^ 102 by decide))
  have w2 := wide_lt sU (Nat.lt_of_lt_of_le sy (show 2 ^ 100 ≤ 2 ^ 102 by decide))
  have e : Geo.lnOf b n cs os i = (Geo.lnA cs[i] cs[(i + 1) % cs.length], Geo.lnU cs[i] cs[(i + 1) % cs.length], Geo.lnB b n cs[i] cs[(i + 1) % cs.length] (os.contains (i : Int))) := by
    unfold Geo.lnOf
    rw [List.getD_eq_getElem?_getD, ei, List.getD_eq_getElem?_getD, ej] <;> rfl
  rw [e]
  refine ⟨⟨sA, sU⟩, ?_⟩
  exact Nat.lt_of_lt_of_le (least_small (wide_lt nb (nat_sum w1 w2))) (by decide)
section
variable {P : Program} {w : World} {K : PySem.W.Frag} {mg : Str → Option Value} {base : Heap}
def spSb (K : PySem.W.Frag) (R S : Addr) : Sp := fun vs H Q _ => ∃ (t c o L : Addr) (b n low high : Int) (ks : Pts) (os : List Int) (ls : List (Addr × Ln)), vs = [.ref t, .int n, .ref L, .int low, .int high] ∧ FAt K H t c o b ks os ∧ IsF b (ks.map (·.2)) os ∧ 3 ≤ ks.length ∧ 1 ≤ n ∧ n ≤ 10 ^ 30 ∧
  SqL K H L (lrefs ls) ∧ LnAt K H ls ∧ ls.map (·.2) = linesOf b n (ks.map (·.2)) os ∧ low < high ∧ (∀ x ∈ ks, x.2.2 ≤ low ∨ high ≤ x.2.2) ∧ (∃ x ∈ ks, x.2.2 = low) ∧ (∃ x ∈ ks, x.2.2 = high) ∧
  PL K R S (fun row x => (n * low < b * row ∧ b * row < n * high) ∧ InL (ls.map (·.2)) x row) 1 H Q
theorem ok_sb {f R S fN fL fG fI : Addr} {fd fdN fdL fdG fdI : FuncData} {k : Nat} (F : Fun K "strips_between" "strips_between" sSb f fd) (T : Nms mg) (TS : StripT K S) (MS : Mk K S fI) (mS : mg "Strip" = some (.ref S)) (OI : FnOk P w K mg base CX0 (k + 1) fI fdI ["self", "first", "last", "left", "right"] (spStpI S)) (bI : Binds K fdI ["self", "first", "last", "left", "right"] [])
    (CN : Cal P w K mg base (k + 1) "next_corner" fN fdN ["corners", "side"] (spNx K)) (CL : Cal P w K mg base (k + 1) "least_from" fL fdL ["top", "bottom", "beyond"] spLea) (CG : Cal P w K mg base (k + 1) "greatest_to" fG fdG ["top", "bottom", "beyond"] spGrt) :
    FnOk P w K mg base CX0 (k + 1 + 1 + 1) f fd ["fence", "size", "lines", "low", "high"] (spSb K R S) := by
  refine F.ok scSb (fun vs H Q E h => ?_) (fun cdv A outer s H vs Q E hr h => ?_)
  · obtain ⟨t, c, o, L, b, n, low, high, ks, os, ls, rfl, _⟩ := h
    rfl
  · obtain ⟨t, c, o, L, b, n, low, high, ks, os, ls, rfl, fa, isf, l3, n1, n2, hL, hT, el, lh, btw, ⟨xl, hxl, exl⟩, ⟨xh, hxh, exh⟩, q⟩ := h
    have h2 := hr.mono (show k + 1 ≤ k + 1 + 1 by omega)
    refine ⟨_, pss_cons (ps_asg (pv 0) (pg_tup rfl (pgs_cons (pg_name (i := 5) scSb.nd rfl (.inl rfl)) (pgs_cons (pg_name (i := 6) scSb.nd rfl (.inl rfl)) (pgs_cons (pg_name (i := 7) scSb.nd rfl (.inl rfl)) pgs_nil)))))
      (pss_cons (ps_par (i := 8) (j := 9) rfl scSb.nd rfl rfl (by decide) rfl rfl (pa_cons (pe_cal CL h2 (pa_cons (pe_op op_mulW (pv 1) (pv 3)) (pa_cons (pv 5) (pa_cons pe_bl pa_nil)))) (pa_cons (pe_cal CG h2 (pa_cons (pe_op op_mulW (pv 1) (pv 4)) (pa_cons (pv 5) (pa_cons pe_bl pa_nil)))) pa_nil)) (by rfl))
      (pss_cons (ps_if (pt_cmpR op_gt (pv 8) (pv 9) (nomark _)) (pss_one (ps_ret (pe_lst pa_nil))) pss_nil)
      (pss_cons (ps_asg2 pe_non (pg_name (i := 10) scSb.nd rfl (.inl rfl)) (pg_name (i := 11) scSb.nd rfl (.inl rfl)))
      (pss_cons (ps_for PassesOwn.never rfl (pi_enum (by rfl) T.menum (pa_cons (pv 6) pa_nil)) (pg_tup rfl (pgs_cons (pg_name (i := 12) scSb.nd rfl (.inl rfl)) (pgs_cons (pg_tup rfl (pgs_cons (pg_name (i := 7) scSb.nd rfl (.inl rfl)) (pgs_cons (pg_name (i := 13) scSb.nd rfl (.inl rfl)) pgs_nil))) pgs_nil)))
        (pss_cons (ps_set (i := 14) scSb.nd rfl (.inl rfl) (pe_ix ix_tup (pe_cal CN h2 (pa_cons (pv 6) (pa_cons (pv 12) pa_nil))) pe_int (fun _ _ => rfl)))
        (pss_cons (ps_if (PW.pt (pw_and (pt_cmpR op_le (pv 13) (pv 3) (nomark _)) (pw_and1 (pt_cmpR op_le (pv 4) (pv 14) (nomark _))))) (pss_one (ps_set (i := 11) scSb.nd rfl (.inl rfl) (pe_ix ix_list (pv 2) (pv 12) (fun _ _ => rfl)))) pss_nil)
        (pss_one (ps_if (PW.pt (pw_and (pt_cmpR op_le (pv 14) (pv 3) (nomark _)) (pw_and1 (pt_cmpR op_le (pv 4) (pv 13) (nomark _))))) (pss_one (ps_set (i := 10) scSb.nd rfl (.inl rfl) (pe_ix ix_list (pv 2) (pv 12) (fun _ _ => rfl)))) pss_nil)))))
      (pss_one (ps_ret (pe_lst (pa_cons (pe_make MS OI hr (by rfl) mS bI .nil pass0 (pa_cons (pv 8) (pa_cons (pv 9) (pa_cons (pv 10) (pa_cons (pv 11) pa_nil))))) pa_nil)))))))), ?_⟩
    have b1 := isf.b1
    have b2 := isf.b2
    have l10 : ks.length ≤ 10 := by have := isf.l2; rw [List.length_map] at this; exact this
    have nb : n.natAbs < 2 ^ 100 := by
      have z : (10 : Int) ^ 30 = 1000000000000000000000000000000 := by decide
      have w : (2 : Nat) ^ 100 = 1267650600228229401496703205376 := by decide
      rw [z] at n2
      rw [w]
      omega
    have bb : b.natAbs < 2 ^ 4000 := Nat.lt_of_le_of_lt (show b.natAbs ≤ 30 by omega) (by decide)
    have lb' : low.natAbs < 2 ^ 100 := by rw [← exl]; exact (cor_small (isf.co xl.2 (List.mem_map.mpr ⟨xl, hxl, rfl⟩))).2
    have hb' : high.natAbs < 2 ^ 100 := by rw [← exh]; exact (cor_small (isf.co xh.2 (List.mem_map.mpr ⟨xh, hxh, rfl⟩))).2
    have lls : ls.length = ks.length := by
      have := congrArg List.length el
      unfold linesOf at this
      simp only [List.length_map, List.length_range] at this
      exact this
    refine ⟨.ref t, rfl, t, _, rfl, fa.tup, rfl, .int b, [.ref c, .ref o], rfl, .ref c, [.ref o], rfl, .ref o, [], rfl, rfl, ?_⟩
    refine ⟨_, rfl, _, rfl, _, _, rfl, rfl, wide_mul nb lb' (by decide) (by decide) (by decide), _, rfl, _, b, true, rfl, by omega, bb, ?_⟩
    refine ⟨_, rfl, _, rfl, _, _, rfl, rfl, wide_mul nb hb' (by decide) (by decide) (by decide), _, rfl, _, b, true, rfl, by omega, bb, _, _, rfl, ?_⟩
    have f1 : ∀ row, Lat.leastFrom (n * low) b true ≤ row ↔ n * low < b * row := fun row => by rw [Lat.least_le (by omega), if_pos rfl]
    have f2 : ∀ row, row ≤ Lat.greatestTo (n * high) b true ↔ b * row < n * high := fun row => by rw [Lat.le_greatest (by omega), if_pos rfl]
    have fsm : (Lat.leastFrom (n * low) b true).natAbs < 2 ^ 1000 := Nat.lt_trans (least_small (wide_lt nb lb')) (by decide)
    have lsm : (Lat.greatestTo (n * high) b true).natAbs < 2 ^ 1000 := by
      unfold Lat.greatestTo
      rw [Int.natAbs_neg]
      exact Nat.lt_trans (least_small (by rw [Int.natAbs_neg]; exact wide_lt nb hb')) (by decide)
    generalize Lat.leastFrom (n * low) b true = first at f1 fsm ⊢
    generalize Lat.greatestTo (n * high) b true = last at f2 lsm ⊢
    refine ⟨_, rfl, _, rfl, _, _, rfl, rfl, _, rfl, ite2 (fun e => ?_) (fun e => ?_)⟩
    · have e1 : last < first := of_decide_eq_true e
      refine ⟨by show 0 ≤ sizeLine; decide, fun M nM => ?_⟩
      refine q _ M [] (same_new nM) nM upd_same (fun x hx => absurd hx List.not_mem_nil) (fun x hx => absurd hx List.not_mem_nil) sep_nil (by simp) fun row x => ⟨fun h => absurd h inPs_nil, fun h => ?_⟩
      have z1 := (f1 row).mpr h.1.1
      have z2 := (f2 row).mpr h.1.2
      omega
    · have e1 : first ≤ last := by
        have : ¬ last < first := fun z => e (decide_eq_true z)
        omega
      refine ⟨.ref c, rfl, c, _, rfl, fa.cor, ?_⟩
      refine for_it (walk_enum (K := K) (a := c) (xs := refs ks)) (fun e σ H' => ∃ z7 z12 z13 z14 vl vr, σ = [some (.ref t), some (.int n), some (.ref L), some (.int low), some (.int high), some (.int b), some (.ref c), z7, some (.int first), some (.int last), some vl, some vr, z12, z13, z14] ∧ Same H H' ∧ Held ls (DnX ks low high) e vl ∧ Held ls (UpX ks low high) e vr) ⟨_, _, _, _, _, _, rfl, Same.refl _, .inr ⟨rfl, fun r z => absurd z (Nat.not_lt_zero _)⟩, .inr ⟨rfl, fun r z => absurd z (Nat.not_lt_zero _)⟩⟩ (fun e σ H' _ z => ?_) ?_ ?_
      · obtain ⟨_, _, _, _, _, _, _, z, _⟩ := z
        exact z.seq fa.cor
      · rintro e x σ H7 H8 he ⟨z7, z12, z13, z14, vl, vr, rfl, s7, hl, hr'⟩ ⟨U, x1, x2, rfl, nU, rfl, e1', e2'⟩
        have ex1 : x1 = .int (e : Nat) := (Option.some.inj e1').symm
        subst ex1
        obtain ⟨p, hp, rfl⟩ := refs_get e2'
        rw [refs_len] at he
        have lb : (e + 1) % ks.length < ks.length := Nat.mod_lt _ (by omega)
        obtain ⟨r, hr2⟩ : ∃ r, ks[(e + 1) % ks.length]? = some r := ⟨_, List.getElem?_eq_getElem lb⟩
        have mp := List.mem_of_getElem? hp
        have mr := List.mem_of_getElem? hr2
        have s8 := s7.trans (same_new (o := .tup [.int (e : Nat), .ref p.1]) nU)
        have f8 := fa.same s8
        obtain ⟨y, hy⟩ : ∃ y, ls[e]? = some y := ⟨_, List.getElem?_eq_getElem (by omega)⟩
        have hLe : atI (lrefs ls) ((e : Nat) : Int) = some (.ref y.1) := atI_nat (by unfold lrefs; rw [List.getElem?_map, hy]; rfl)
        have upI : UpX ks low high e ↔ p.2.2 ≤ low ∧ high ≤ r.2.2 := ⟨fun ⟨c, d, h1, h2, h3, h4⟩ => by
          rw [hp] at h1
          rw [hr2] at h2
          cases h1
          cases h2
          exact ⟨h3, h4⟩, fun ⟨h3, h4⟩ => ⟨p, r, hp, hr2, h3, h4⟩⟩
        have dnI : DnX ks low high e ↔ r.2.2 ≤ low ∧ high ≤ p.2.2 := ⟨fun ⟨c, d, h1, h2, h3, h4⟩ => by
          rw [hp] at h1
          rw [hr2] at h2
          cases h1
          cases h2
          exact ⟨h3, h4⟩, fun ⟨h3, h4⟩ => ⟨p, r, hp, hr2, h3, h4⟩⟩
        refine ⟨U, _, rfl, SqT.of upd_same, rfl, .int (e : Nat), [.ref p.1], rfl, .ref p.1, [], rfl, p.1, _, rfl, f8.pts p mp, rfl, .int p.2.1, [.int p.2.2], rfl, .int p.2.2, [], rfl, rfl, rfl, ?_⟩
        refine ⟨.ref c, rfl, _, rfl, c, ks, e, r, rfl, f8.cor, hr2, r.1, _, 1, .int r.2.2, rfl, rfl, f8.pts r mr, atI_nat (j := 1) rfl, ?_⟩
        refine ⟨.int p.2.2, rfl, .int low, rfl, _, _, rfl, rfl, _, rfl, ite2 (fun a1 => ?_) (fun a1 => ?_)⟩
        · refine ⟨.int high, rfl, .int r.2.2, rfl, _, _, rfl, rfl, _, rfl, ite2 (fun a2 => ?_) (fun a2 => ?_)⟩
          · refine ⟨.ref L, rfl, .int (e : Nat), rfl, L, lrefs ls, ((e : Nat) : Int), .ref y.1, rfl, rfl, s8.seq hL, hLe, ?_⟩
            have hR : Held ls (UpX ks low high) (e + 1) (.ref y.1) := .inl ⟨e, y, hy, upI.mpr ⟨of_decide_eq_true a1, of_decide_eq_true a2⟩, rfl⟩
            refine ⟨.int r.2.2, rfl, .int low, rfl, _, _, rfl, rfl, _, rfl, ite2 (fun c1 => ?_) (fun c1 => ?_)⟩
            · refine ⟨.int high, rfl, .int p.2.2, rfl, _, _, rfl, rfl, _, rfl, ite2 (fun c2 => ?_) (fun c2 => ?_)⟩
              · exact ⟨.ref L, rfl, .int (e : Nat), rfl, L, lrefs ls, ((e : Nat) : Int), .ref y.1, rfl, rfl, s8.seq hL, hLe, _, _, _, _, _, _, rfl, s8, .inl ⟨e, y, hy, dnI.mpr ⟨of_decide_eq_true c1, of_decide_eq_true c2⟩, rfl⟩, hR⟩
              · exact ⟨_, _, _, _, _, _, rfl, s8, hl.next (fun z => c2 (decide_eq_true (dnI.mp z).2)), hR⟩
            · exact iteF ⟨_, _, _, _, _, _, rfl, s8, hl.next (fun z => c1 (decide_eq_true (dnI.mp z).1)), hR⟩
          · have hR : Held ls (UpX ks low high) (e + 1) vr := hr'.next fun z => a2 (decide_eq_true (upI.mp z).2)
            refine ⟨.int r.2.2, rfl, .int low, rfl, _, _, rfl, rfl, _, rfl, ite2 (fun c1 => ?_) (fun c1 => ?_)⟩
            · refine ⟨.int high, rfl, .int p.2.2, rfl, _, _, rfl, rfl, _, rfl, ite2 (fun c2 => ?_) (fun c2 => ?_)⟩
              · exact ⟨.ref L, rfl, .int (e : Nat), rfl, L, lrefs ls, ((e : Nat) : Int), .ref y.1, rfl, rfl, s8.seq hL, hLe, _, _, _, _, _, _, rfl, s8, .inl ⟨e, y, hy, dnI.mpr ⟨of_decide_eq_true c1, of_decide_eq_true c2⟩, rfl⟩, hR⟩
              · exact ⟨_, _, _, _, _, _, rfl, s8, hl.next (fun z => c2 (decide_eq_true (dnI.mp z).2)), hR⟩
            · exact iteF ⟨_, _, _, _, _, _, rfl, s8, hl.next (fun z => c1 (decide_eq_true (dnI.mp z).1)), hR⟩
        · have hR : Held ls (UpX ks low high) (e + 1) vr := hr'.next fun z => a1 (decide_eq_true (upI.mp z).1)
          refine iteF ?_
          refine ⟨.int r.2.2, rfl, .int low, rfl, _, _, rfl, rfl, _, rfl, ite2 (fun c1 => ?_) (fun c1 => ?_)⟩
          · refine ⟨.int high, rfl, .int p.2.2, rfl, _, _, rfl, rfl, _, rfl, ite2 (fun c2 => ?_) (fun c2 => ?_)⟩
            · exact ⟨.ref L, rfl, .int (e : Nat), rfl, L, lrefs ls, ((e : Nat) : Int), .ref y.1, rfl, rfl, s8.seq hL, hLe, _, _, _, _, _, _, rfl, s8, .inl ⟨e, y, hy, dnI.mpr ⟨of_decide_eq_true c1, of_decide_eq_true c2⟩, rfl⟩, hR⟩
            · exact ⟨_, _, _, _, _, _, rfl, s8, hl.next (fun z => c2 (decide_eq_true (dnI.mp z).2)), hR⟩
          · exact iteF ⟨_, _, _, _, _, _, rfl, s8, hl.next (fun z => c1 (decide_eq_true (dnI.mp z).1)), hR⟩
      · rintro σ H7 ⟨z7, z12, z13, z14, vl, vr, rfl, s7, hl, hr'⟩
        rw [refs_len] at hl hr'
        obtain ⟨il, eil⟩ := List.mem_iff_getElem?.mp hxl
        obtain ⟨ih, eih⟩ := List.mem_iff_getElem?.mp hxh
        obtain ⟨xr, hxr, ⟨r, ur, rfl⟩⟩ : ∃ xr, xr ∈ ls ∧ ∃ r, (ls[r]? = some xr ∧ UpX ks low high r) ∧ vr = .ref xr.1 := by
          rcases hr' with ⟨r, x, h1, h2, h3⟩ | ⟨_, h⟩
          · exact ⟨x, List.mem_of_getElem? h1, r, ⟨h1, h2⟩, h3⟩
          · obtain ⟨r, c, d, lr, ec, ed, hc, hd⟩ := Geo.around (fun x : Addr × Hull.P => x.2.2 ≤ low) eil eih (by rw [exl]; exact Int.le_refl _) (by rw [exh]; omega)
            exact absurd ⟨c, d, ec, ed, hc, (btw d (List.mem_of_getElem? ed)).resolve_left hd⟩ (h r lr)
        obtain ⟨xL, hxL, ⟨l, dl, rfl⟩⟩ : ∃ xL, xL ∈ ls ∧ ∃ l, (ls[l]? = some xL ∧ DnX ks low high l) ∧ vl = .ref xL.1 := by
          rcases hl with ⟨r, x, h1, h2, h3⟩ | ⟨_, h⟩
          · exact ⟨x, List.mem_of_getElem? h1, r, ⟨h1, h2⟩, h3⟩
          · obtain ⟨r, c, d, lr, ec, ed, hc, hd⟩ := Geo.around (fun x : Addr × Hull.P => high ≤ x.2.2) eih eil (by rw [exh]; exact Int.le_refl _) (by rw [exl]; omega)
            exact absurd ⟨c, d, ec, ed, (btw d (List.mem_of_getElem? ed)).resolve_right hd, hc⟩ (h r lr)
        obtain ⟨hr1, cR, dR, er, er', r1, r2⟩ := ur
        obtain ⟨hl1, cL, dL, el1, el2, l1, l2⟩ := dl
        have O : Out (ks.map (·.2)) := by
          rcases isf.sh with z | ⟨a, d, z, _⟩ | z
          · rw [List.length_map] at z
            omega
          · have := congrArg List.length z
            rw [List.length_map] at this
            simp at this
            omega
          · exact z.2
        have lnE : ∀ (i : Nat) (y : Addr × Ln), ls[i]? = some y → y.2 = Geo.lnOf b n (ks.map (·.2)) os i := fun i y hy => by
          have li : i < ks.length := by rw [← lls]; exact (List.getElem?_eq_some_iff.mp hy).1
          have z := congrArg (fun l => l[i]?) el
          unfold linesOf at z
          simp only [List.getElem?_map, hy, List.length_map, Option.map_some] at z
          rw [List.getElem?_range li] at z
          exact Option.some.inj z
        have eR := lnE r xr hr1
        have eL := lnE l xL hl1
        have cor : ∀ {i : Nat} {y : Addr × Hull.P}, ks[i]? = some y → Cor y.2 := fun {i y} hy => isf.co y.2 (List.mem_map.mpr ⟨y, List.mem_of_getElem? hy, rfl⟩)
        have gR : Geo.lnOf b n (ks.map (·.2)) os r = (Geo.lnA cR.2 dR.2, Geo.lnU cR.2 dR.2, Geo.lnB b n cR.2 dR.2 (os.contains (r : Int))) := by
          unfold Geo.lnOf
          rw [List.length_map, getD_snd er, getD_snd er']
        have gL : Geo.lnOf b n (ks.map (·.2)) os l = (Geo.lnA cL.2 dL.2, Geo.lnU cL.2 dL.2, Geo.lnB b n cL.2 dL.2 (os.contains (l : Int))) := by
          unfold Geo.lnOf
          rw [List.length_map, getD_snd el1, getD_snd el2]
        have nR : cR.2 ≠ dR.2 := fun z => by rw [z] at r1; omega
        have nL : cL.2 ≠ dL.2 := fun z => by rw [z] at l2; omega
        have pR : Geo.lnA cR.2 dR.2 < 0 := Geo.lnA_neg (by omega)
        have pL : 0 < Geo.lnA cL.2 dL.2 := Geo.lnA_pos (by omega)
        refine ⟨_, rfl, _, rfl, _, rfl, _, rfl, fun x dx nx ndx ne => ?_⟩
        refine ⟨x, dx, xL.1, xr.1, first, last, rfl, upd_same, rfl, ?_⟩
        have c3 := same_made (o1 := .own x) (o2 := .ins S dx []) (o3 := .ins S dx (sf first last xL.1 xr.1)) nx ndx
        have g3 : (upd (upd (upd H7 dx (.own x)) x (.ins S dx [])) x (.ins S dx (sf first last xL.1 xr.1))) x = some (.ins S dx (sf first last xL.1 xr.1)) := upd_same
        generalize upd (upd (upd H7 dx (.own x)) x (.ins S dx [])) x (.ins S dx (sf first last xL.1 xr.1)) = H8 at c3 g3 ⊢
        refine ⟨by show 1 ≤ sizeLine; decide, fun M nM => ?_⟩
        have c4 := same_new (o := .lst [V.ref x]) nM
        have s8 := s7.trans c3
        refine q _ M [(x, .strip first last xL.2 xr.2)] (s8.trans c4) (s8.free nM) upd_same (fun y hy => ?_) (fun y hy => ?_) sep_one (by simp) fun row px => ?_
        · rw [List.mem_singleton.mp hy]
          exact (StripAt.mk ⟨dx, xL.1, xr.1, g3, s8.seqT (hT xL hxL), s8.seqT (hT xr hxr)⟩ : StripAt K S _ x first last xL.2 xr.2).same c4
        · rw [List.mem_singleton.mp hy]
          have lr' : r < (ks.map (·.2)).length := by rw [List.length_map, ← lls]; exact (List.getElem?_eq_some_iff.mp hr1).1
          have ll' : l < (ks.map (·.2)).length := by rw [List.length_map, ← lls]; exact (List.getElem?_eq_some_iff.mp hl1).1
          have kL := lnOf_small (b := b) (os := os) nb (by rw [List.length_map]; exact l3) O isf.co ll'
          have kR := lnOf_small (b := b) (os := os) nb (by rw [List.length_map]; exact l3) O isf.co lr'
          have pL' : 0 < (Geo.lnOf b n (ks.map (·.2)) os l).1 := by rw [gL]; exact pL
          have pR' : (Geo.lnOf b n (ks.map (·.2)) os r).1 < 0 := by rw [gR]; exact pR
          show 0 < xL.2.1 ∧ xr.2.1 < 0 ∧ LSm xL.2 ∧ LSm xr.2 ∧ BSm xL.2 ∧ BSm xr.2 ∧ first.natAbs < 2 ^ 1000 ∧ last.natAbs < 2 ^ 1000 ∧ _
          rw [eL, eR]
          refine ⟨pL', pR', kL.1, kR.1, kL.2, kR.2, fsm, lsm, fun row h1 h2 => ?_⟩
          exact Geo.no_gap (by rw [List.length_map]; exact l3) O (by omega) (by omega) lr' ll' (cR := cR.2) (dR := dR.2) (cL := cL.2) (dL := dL.2) (by rw [List.getElem?_map, er]; rfl) (by rw [List.length_map, List.getElem?_map, er']; rfl) (by rw [List.getElem?_map, el1]; rfl) (by rw [List.length_map, List.getElem?_map, el2]; rfl) r1 r2 l1 l2 ((f1 row).mp h1) ((f2 row).mp h2) pL' pR'
        · rw [inPs_one]
          show InStrip first last xL.2 xr.2 row px ↔ (n * low < b * row ∧ b * row < n * high) ∧ InL (ls.map (·.2)) px row
          have all : InL (ls.map (·.2)) px row ↔ ∀ i, i < (ks.map (·.2)).length → (Geo.lnOf b n (ks.map (·.2)) os i).2.2 ≤ (Geo.lnOf b n (ks.map (·.2)) os i).1 * px + (Geo.lnOf b n (ks.map (·.2)) os i).2.1 * row := by
            rw [el]
            unfold InL linesOf
            constructor
            · intro h i hi
              exact h _ (List.mem_map.mpr ⟨i, List.mem_range.mpr hi, rfl⟩)
            · intro h y hy
              obtain ⟨i, hi, rfl⟩ := List.mem_map.mp hy
              exact h i (List.mem_range.mp hi)
          have lr : r < (ks.map (·.2)).length := by rw [List.length_map, ← lls]; exact (List.getElem?_eq_some_iff.mp hr1).1
          have ll : l < (ks.map (·.2)).length := by rw [List.length_map, ← lls]; exact (List.getElem?_eq_some_iff.mp hl1).1
          have sl : (n * low < b * row ∧ b * row < n * high) → (InL (ls.map (·.2)) px row ↔ xL.2.2.2 ≤ xL.2.1 * px + xL.2.2.1 * row ∧ xr.2.2.2 ≤ xr.2.1 * px + xr.2.2.1 * row) := fun hy => by
            rw [all, eL, eR]
            exact Geo.strip_lines (by rw [List.length_map]; exact l3) O (by omega) (by omega) lr ll (cR := cR.2) (dR := dR.2) (cL := cL.2) (dL := dL.2) (by rw [List.getElem?_map, er]; rfl) (by rw [List.length_map, List.getElem?_map, er']; rfl) (by rw [List.getElem?_map, el1]; rfl) (by rw [List.length_map, List.getElem?_map, el2]; rfl) r1 r2 l1 l2 hy.1 hy.2
          unfold InStrip
          rw [f1, f2]
          constructor
          · rintro ⟨h1, h2, h3⟩
            exact ⟨⟨h1, h2⟩, (sl ⟨h1, h2⟩).mpr h3⟩
          · rintro ⟨h1, h2⟩
            exact ⟨h1.1, h1.2, (sl h1).mp h2⟩
end
end K12
set_option Elab.async false
set_option linter.all false
set_option maxRecDepth 100000
set_option maxHeartbeats 1000000
set_option exponentiation.threshold 20000
namespace K12
open PySem PySem.Spec PyProof.Rows L2 Fen
abbrev sPr : Stmt := topS 43
theorem scPr : FnScope ["bottom", "size", "corner", "x", "y"] ["bottom", "size", "corner"] (defScope sPr) := ⟨rfl, rfl, rfl, by decide +kernel, rfl, by decide +kernel, by decide +kernel⟩
theorem div_iff {b v q : Int} (hb : 0 < b) (hv : v % b = 0) : b * q = v ↔ q = v / b := by
  have := Int.mul_ediv_add_emod v b
  constructor
  · intro h
    rw [← h, Int.mul_ediv_cancel_left _ (by omega)]
  · intro h
    rw [h]
    omega
section
variable {P : Program} {w : World} {K : PySem.W.Frag} {mg : Str → Option Value} {base : Heap}
def spPr (K : PySem.W.Frag) (R S : Addr) : Sp := fun vs H Q _ => ∃ (b n : Int) (a : Addr) (p : Hull.P), vs = [.int b, .int n, .ref a] ∧ 1 ≤ b ∧ b ≤ 30 ∧ n.natAbs < 2 ^ 100 ∧ Cor p ∧ SqT K H a [.int p.1, .int p.2] ∧ PL K R S (fun row px => b * px = n * p.1 ∧ b * row = n * p.2) 1 H Q
theorem ok_pr {f R S fI : Addr} {fd fdI : FuncData} {k : Nat} (F : Fun K "point_runs" "point_runs" sPr f fd) (MR : Mk K R fI) (mR : mg "Run" = some (.ref R)) (OI : FnOk P w K mg base CX0 (k + 1) fI fdI ["self", "start", "step", "many"] (spRunI R)) (bI : Binds K fdI ["self", "start", "step", "many"] []) :
    FnOk P w K mg base CX0 (k + 1 + 1 + 1) f fd ["bottom", "size", "corner"] (spPr K R S) := by
  refine F.ok scPr (fun vs H Q E h => ?_) (fun cdv A outer s H vs Q E hr h => ?_)
  · obtain ⟨b, n, a, p, rfl, _⟩ := h
    rfl
  · obtain ⟨b, n, a, p, rfl, b1, b2, nb, cp, hT, q⟩ := h
    refine ⟨_, pss_cons (ps_asg (pv 2) (pg_tup rfl (pgs_cons (pg_name (i := 3) scPr.nd rfl (.inl rfl)) (pgs_cons (pg_name (i := 4) scPr.nd rfl (.inl rfl)) pgs_nil))))
      (pss_cons (ps_if (PW.pt (pw_or (pt_cmpR op_ne (pe_op op_mod (pe_op op_mulW (pv 1) (pv 3)) (pv 0)) pe_int (nomark _)) (pw_or1 (pt_cmpR op_ne (pe_op op_mod (pe_op op_mulW (pv 1) (pv 4)) (pv 0)) pe_int (nomark _))))) (pss_one (ps_ret (pe_lst pa_nil))) pss_nil)
      (pss_one (ps_ret (pe_lst (pa_cons (pe_make MR OI hr (by rfl) mR bI .nil pass0 (pa_cons (pe_tup (pa_cons (pe_op op_fdivW (pe_op op_mulW (pv 1) (pv 3)) (pv 0)) (pa_cons (pe_op op_fdivW (pe_op op_mulW (pv 1) (pv 4)) (pv 0)) pa_nil))) (pa_cons (pe_tup (pa_cons pe_int (pa_cons pe_int pa_nil))) (pa_cons pe_int pa_nil)))) pa_nil))))), ?_⟩
    obtain ⟨sx, sy⟩ := cor_small cp
    have bp : 0 < b := by omega
    have bb : b.natAbs < 2 ^ 100 := Nat.lt_of_le_of_lt (show b.natAbs ≤ 30 by omega) (by decide)
    have mx := wide_mul nb sx (by decide) (by decide) (by decide)
    have my := wide_mul nb sy (by decide) (by decide) (by decide)
    have none' : (¬ (n * p.1 % b = 0 ∧ n * p.2 % b = 0)) → ∀ M, H M = none → Q (.ref M) (upd H M (.lst [])) := fun no M nM => by
      refine q _ M [] (same_new nM) nM upd_same (fun x hx => absurd hx List.not_mem_nil) (fun x hx => absurd hx List.not_mem_nil) sep_nil (by simp) fun row x => ⟨fun h => absurd h inPs_nil, fun h => absurd ⟨?_, ?_⟩ no⟩
      · rw [← h.1, Int.mul_emod_right]
      · rw [← h.2, Int.mul_emod_right]
    refine ⟨.ref a, rfl, a, _, rfl, hT, rfl, .int p.1, [.int p.2], rfl, .int p.2, [], rfl, rfl, ?_⟩
    refine ⟨_, rfl, _, rfl, _, _, rfl, rfl, mx, _, rfl, _, _, rfl, rfl, bp, rfl, _, rfl, ite2 (fun e1 => ?_) (fun e1 => ?_)⟩
    · refine ⟨by show 0 ≤ sizeLine; decide, fun M nM => none' (fun z => ?_) M nM⟩
      have w : V.int (n * p.1 % b) = V.int 0 := congrArg V.int z.1
      rw [show decide ((fun i j => V.int (i % j)) (n * p.1) b = V.int 0) = true from decide_eq_true w] at e1
      cases e1
    have z1 : n * p.1 % b = 0 := by
      refine Classical.byContradiction fun z => e1 ?_
      rw [decide_eq_false (fun w => z (V.int.inj w))]
      rfl
    refine ⟨_, rfl, _, rfl, _, _, rfl, rfl, my, _, rfl, _, _, rfl, rfl, bp, rfl, _, rfl, ite2 (fun e2 => ?_) (fun e2 => ?_)⟩
    · refine ⟨by show 0 ≤ sizeLine; decide, fun M nM => none' (fun z => ?_) M nM⟩
      have w : V.int (n * p.2 % b) = V.int 0 := congrArg V.int z.2
      rw [show decide ((fun i j => V.int (i % j)) (n * p.2) b = V.int 0) = true from decide_eq_true w] at e2
      cases e2
    have z2 : n * p.2 % b = 0 := by
      refine Classical.byContradiction fun z => e2 ?_
      rw [decide_eq_false (fun w => z (V.int.inj w))]
      rfl
    have dv : ∀ x : Int, CDivW x b := fun x => wide_div bp bb (by decide) (by decide)
    refine ⟨_, rfl, _, rfl, _, _, rfl, rfl, mx, _, rfl, _, _, rfl, rfl, dv _, _, rfl, _, rfl, _, _, rfl, rfl, my, _, rfl, _, _, rfl, rfl, dv _, by show 2 ≤ sizeLine; decide, fun t1 nt1 => ?_⟩
    have c1 := same_new (o := .tup [.int (n * p.1 / b), .int (n * p.2 / b)]) nt1
    have g1 : SqT K (upd H t1 (.tup [.int (n * p.1 / b), .int (n * p.2 / b)])) t1 [.int (n * p.1 / b), .int (n * p.2 / b)] := .inl (.inl upd_same)
    generalize upd H t1 (.tup [.int (n * p.1 / b), .int (n * p.2 / b)]) = H2 at c1 g1 ⊢
    refine ⟨by show 2 ≤ sizeLine; decide, fun t2 nt2 => ?_⟩
    have c2 := same_new (o := .tup [.int 1, .int 0]) nt2
    have g2 : SqT K (upd H2 t2 (.tup [.int 1, .int 0])) t2 [.int 1, .int 0] := .inl (.inl upd_same)
    generalize upd H2 t2 (.tup [.int 1, .int 0]) = H3 at c2 g2 ⊢
    refine fun x dx nx ndx ne => ⟨x, dx, t1, t2, 1, rfl, upd_same, rfl, ?_⟩
    have c3 := same_made (o1 := .own x) (o2 := .ins R dx []) (o3 := .ins R dx (rf t1 t2 1)) nx ndx
    have g3 : (upd (upd (upd H3 dx (.own x)) x (.ins R dx [])) x (.ins R dx (rf t1 t2 1))) x = some (.ins R dx (rf t1 t2 1)) := upd_same
    generalize upd (upd (upd H3 dx (.own x)) x (.ins R dx [])) x (.ins R dx (rf t1 t2 1)) = H4 at c3 g3 ⊢
    refine ⟨by show 1 ≤ sizeLine; decide, fun M nM => ?_⟩
    have c4 := same_new (o := .lst [V.ref x]) nM
    have sAll := c1.trans (c2.trans c3)
    have yb : (n * p.2 / b).natAbs < 2 ^ 3000 := Nat.lt_of_le_of_lt (Int.natAbs_ediv_le_natAbs _ _) (Nat.lt_trans (wide_lt nb sy) (by decide))
    refine q _ M [(x, .run (n * p.1 / b) (n * p.2 / b) 1 0 1)] (sAll.trans c4) (sAll.free nM) upd_same (fun y hy => ?_) (fun y hy => ?_) sep_one (by simp) fun row px => ?_
    · rw [List.mem_singleton.mp hy]
      exact (RunAt.mk ⟨dx, t1, t2, g3, (c2.trans c3).seqT g1, c3.seqT g2⟩ : RunAt K R _ x (n * p.1 / b) (n * p.2 / b) 1 0 1).same c4
    · rw [List.mem_singleton.mp hy]
      exact ⟨by omega, by decide, by decide, by decide, by decide, yb, fun _ => rfl⟩
    · rw [inPs_one]
      show OnRun (n * p.1 / b) (n * p.2 / b) 1 0 1 row px ↔ b * px = n * p.1 ∧ b * row = n * p.2
      rw [div_iff bp z1, div_iff bp z2]
      constructor
      · rintro ⟨k, k0, k1, h1, h2⟩
        omega
      · rintro ⟨h1, h2⟩
        exact ⟨0, by omega, by omega, by omega, by omega⟩
end
end K12
set_option Elab.async false
set_option linter.all false
set_option maxRecDepth 100000
set_option maxHeartbeats 1000000
set_option exponentiation.threshold 20000
namespace Geo
open Hull (P turn Lt)
def gr (n : Int) (p : P) : P := (n * p.1, n * p.2)
/-- a stake belongs to a grown fence; the place is times the bottom -/
def Bel (b n : Int) (cs : List P) (os : List Int) (px row : Int) : Prop :=
  (cs.length < 3 ∧ turn (gr n (cs.getD 0 (0, 0))) (gr n (cs.getD (cs.length - 1) (0, 0))) (b * px, b * row) = 0 ∧ ¬ Lt (b * px, b * row) (gr n (cs.getD 0 (0, 0))) ∧ ¬ Lt (gr n (cs.getD (cs.length - 1) (0, 0))) (b * px, b * row) ∧ ∀ i : Nat, i < cs.length → (i : Int) ∈ os → (b * px, b * row) ≠ gr n (cs.getD i (0, 0)))
    ∨ (3 ≤ cs.length ∧ InF n cs os (b * px) (b * row))
end Geo
namespace K12
open PySem PySem.Spec PyProof.Rows L2 Fen
section
variable {P : Program} {w : World} {K : PySem.W.Frag} {mg : Str → Option Value} {base : Heap}
def spFp (K : PySem.W.Frag) (R S : Addr) : Sp := fun vs H Q _ => ∃ (t c o : Addr) (b n : Int) (ks : Pts) (os : List Int), vs = [.ref t, .int n] ∧ FAt K H t c o b ks os ∧ IsF b (ks.map (·.2)) os ∧ 1 ≤ n ∧ n ≤ 10 ^ 30 ∧
  PL K R S (fun row px => Geo.Bel b n (ks.map (·.2)) os px row) 30 H Q
end
end K12
set_option Elab.async false
set_option linter.all false
set_option maxRecDepth 100000
set_option maxHeartbeats 2000000
/-! {elt for target in iter}, elt an int: a set of ints -/
namespace SetI
open PySem PySem.Spec PyProof.Rows L2
section
variable {X : Cx}
theorem add_one {ps : List (Addr × Obj)} {σ : L2.St} {H : Hp} {s : Shared} {E Q : Value → Shared → Prop} {D : Addr} {S : Int → Bool} {n : Nat} {k : Int} {tk : Tok} (I : Inv X ps σ H s) (at_ : H D = some (SetO X.w D S n)) (room : n + 1 < scanBound)
    (fin : ∀ t, Inv X ps σ (upd H D (SetO X.w D (fun j => S j || decide (j = k)) (if S k = true then n else n + 1))) t → Q .none t) :
    wpAny (model X.prog X.w) X.A (call (.builtin "set.add") [.ref D, .int k tk]) Q E s := by
  refine setR_add (setO_get I at_) room fun g same now => ?_
  obtain ⟨o, ho⟩ : ∃ o, g.get? D = some o := let ⟨o, _, _, _, e, _⟩ := now; ⟨o, e⟩
  refine fin _ (I.write (e := D) (t' := s.toks + 1) (by rw [at_]; trivial) (.inl rfl) (fun b u nb hu => ?_) ⟨o, ho⟩ (setO_new now))
  exact (same.2 b nb).trans hu
/-- D is the new set; Pv tells what holds ahead of turn i, N bounds the turns -/
def tSi (w : World) (wi : TI) (g : TG) (te : TE) (vs : List Nat) : TE := fun σ H Q => wi σ H fun J H1 => ∀ D, H1 D = none → ∃ (Pv : Nat → Hp → Prop) (N : Nat), Pv 0 (upd H1 D (SetO w D (fun _ => false) 0)) ∧ ∀ i Hi, Pv i Hi →
  (J.stop i Hi ∧ Q (.ref D) Hi) ∨ (i < N ∧ J.go i Hi ∧ ∀ x H2, J.yld i Hi x H2 → g x (wipe σ vs) H2 fun σ3 H3 => wipe σ3 vs = wipe σ vs ∧ te σ3 H3 fun y H4 => ∃ (k : Int) (S : Int → Bool) (n : Nat), y = .int k ∧ H4 D = some (SetO w D S n) ∧ n + 1 < scanBound ∧
    Pv (i + 1) (upd H4 D (SetO w D (fun j => S j || decide (j = k)) (if S k = true then n else n + 1))))
theorem pe_si {elt tg iter : Expr} {scope : Scope} {own : List (PySem.Str × Nat)} {pos : Pos} {wi : TI} {g : TG} {te : TE} (calm : X.calm = true) (nd : X.N.Nodup) (ii : PI X tg iter wi) (ok : BlkOk X.N X.env.scope scope own)
    (hg : ∀ (t : Shared) (H : Hp) (c : Addr) (cs : List (PySem.Str × Addr)) (fp : List Addr), PG (X.blk t H scope (compEnvC scope cs c X.env) fp) tg g)
    (he : ∀ (t : Shared) (H : Hp) (c : Addr) (cs : List (PySem.Str × Addr)) (fp : List Addr), PE (X.blk t H scope (compEnvC scope cs c X.env) fp) elt te)
    (nf : ∀ x, foldedSetIterable iter X.env x = pure x := by intro _; rfl) :
    PE X (.SetComp elt [⟨tg, iter, [], 0⟩] scope pos) (tSi X.w wi g te (own.map (·.2))) := by
  refine ⟨fun ps s σ H Q I h => ?_⟩
  rw [PpSet.eval_SetComp]
  have fr : ∀ y ∈ scope.names, y.2 = .free → ∃ c, X.env.cells.lookup y.1 = some c := fun y my ey => (ok.free y my ey).elim (fun z => I.ok.has _ (.inl z)) fun z => I.ok.has _ (.inr z)
  refine wpAny_comprehension_free (use := none) rfl nf (closure_ok fr) ok.kind (fun y my ey => by rw [ok.uniq y my, ey]) (thn (ii.run ps s σ H _ I h) fun _ sA hA => thn hA fun _ sB hB => ?_)
  obtain ⟨it, fp, tn, J, HB, rfl, IB, T, tB, fB, q⟩ := hB
  refine PpSet.newSet_ok (newEnv_comp ?_)
  obtain ⟨D, eD⟩ : ∃ D, D = sB.heap.objs.size := ⟨_, rfl⟩
  rw [← eD]
  obtain ⟨Pv, N, p0, turn⟩ := q D (IB.hok.fresh (Nat.le_of_eq eD.symm))
  have fpB : ∀ b ∈ fp, b < sB.heap.objs.size := fun b mb => let ⟨_, e, _⟩ := T.obj _ _ tB b mb; Heap.lt_size e
  obtain ⟨sC, eC⟩ : ∃ sC : Shared, sC = { sB with heap := sB.heap.push { cls := .type "set", dict := none, data := .set #[] 0 (.fresh 0 0 (!X.w.params.followText "set-order")) } } := ⟨_, rfl⟩
  have hC : sC.heap = sB.heap.push { cls := .type "set", dict := none, data := .set #[] 0 (.fresh 0 0 (!X.w.params.followText "set-order")) } := by rw [eC]
  obtain ⟨HC, eH⟩ : ∃ HC, HC = upd HB D (SetO X.w D (fun _ => false) 0) := ⟨_, rfl⟩
  rw [← eH] at p0
  have IC : Inv X ps σ HC sC := by
    subst eC
    subst eH
    refine IB.laid (t' := sB.toks) (fun b o e => Heap.get?_push_of_some _ e) (Nat.le_of_eq eD.symm) ?_
    subst eD
    refine setO_new (⟨_, #[], 0, _, Heap.get?_push_size _ rfl, ⟨rfl, rfl, rfl⟩, rfl, ?_⟩ : SetR X.w _ _ _ _)
    refine ⟨fun e z => by simp at z, by simp, fun k => by simp, by decide, by rfl, rfl, List.Pairwise.nil, ?_⟩
    show _ ∨ (!X.w.params.followText "set-order") = true
    cases X.w.params.followText "set-order" with
    | true => exact .inl rfl
    | false => exact .inr rfl
  have fC : ∀ b ∈ fp, FpOk X ps HC b ∧ b < sC.heap.objs.size := fun b mb => by
    have lt := fpB b mb
    refine ⟨⟨?_, (fB b mb).2⟩, by rw [hC, Heap.size_push]; exact Nat.lt_succ_of_lt lt⟩
    rw [eH, upd_ne (show b ≠ D by rw [eD]; exact Nat.ne_of_lt lt)]
    exact (fB b mb).1
  have tC : tn 0 sC.heap := T.keep _ _ _ tB fun b _ o e => by rw [hC]; exact Heap.get?_push_of_some _ e
  have ID := block_start IC ok nd fC
  obtain ⟨ce, ece⟩ : ∃ ce, ce = compEnvC scope (cellsFrom (sC.heap.objs.size + 1) scope.names (cloFrom X.env.cells scope.names [])) sC.heap.objs.size X.env := ⟨_, rfl⟩
  have pg := hg sC HC sC.heap.objs.size (cellsFrom (sC.heap.objs.size + 1) scope.names (cloFrom X.env.cells scope.names [])) fp
  have pe := he sC HC sC.heap.objs.size (cellsFrom (sC.heap.objs.size + 1) scope.names (cloFrom X.env.cells scope.names [])) fp
  rw [← ece] at ID pg pe
  have loc : ce.locals = sC.heap.objs.size := by rw [ece] <;> rfl
  obtain ⟨sD, eS⟩ : ∃ sD : Shared, sD = { sC with heap := pushCells (sC.heap.push { cls := .type "dict", data := .dict #[] }) scope.names } := ⟨_, rfl⟩
  rw [← eS] at ID
  have goal : codeAny (model X.prog X.w) X.A (.compStart (.SetComp elt [⟨tg, iter, [], 0⟩] scope pos) 0 (.ref it) (.ref D) ce) (compPost (model X.prog X.w) X.A X.xe none (fun v t => ∃ x H', Inv X ps σ H' t ∧ RelV x v ∧ Q x H') (.ref D) sC.heap.objs.size) sD := by
    have tD : tn 0 sD.heap := T.keep _ _ _ tC fun b _ o e => by rw [eS]; exact pushCells_keeps _ _ _ _ (Heap.get?_push_of_some _ e)
    have still : ∀ {σ' : L2.St} {H' : Hp} {t : Shared}, Inv (X.blk sC HC scope ce fp) [] σ' H' t → (∀ b ∈ fp, H' b = none) → ∀ b ∈ fp, FpOk (X.blk sC HC scope ce fp) [] H' b := fun I' hn b mb => by
      have ex := I'.ok.exf b mb
      exact ⟨hn b mb, ex.1, I'.ok.exfs b mb, .inl mb, fun x c e => ex.2 x c e, fun p mp => absurd (show p ∈ ([] : List (Addr × Obj)) ++ [] from mp) (by simp)⟩
    have loop : codeAny (model X.prog X.w) X.A (.compLoop (.SetComp elt [⟨tg, iter, [], 0⟩] scope pos) 0 (.ref it) (.ref D) ce) (compPost (model X.prog X.w) X.A X.xe none (fun v t => ∃ x H', Inv X ps σ H' t ∧ RelV x v ∧ Q x H') (.ref D) sC.heap.objs.size) sD := by
      refine PpSet.compLoopS_any (fun m t => ∃ i H', m = N - i ∧ Inv (X.blk sC HC scope ce fp) [] (wipe σ (own.map (·.2))) H' t ∧ tn i t.heap ∧ (∀ b ∈ fp, H' b = none) ∧ Pv i H') ?_ N ⟨0, HC, by omega, ID, tD, fun b mb => (fC b mb).1.1, p0⟩
      rintro m t ⟨i, Hi, rfl, Ii, ti, ni, pv⟩
      rcases turn i Hi pv with ⟨stop, qq⟩ | ⟨lt, go, step⟩
      · refine thnF (T.done (X.blk sC HC scope ce fp) rfl rfl rfl calm i [] t _ Hi (fun _ _ => False) Ii (still Ii ni) ti stop) fun r t2 z => ?_
        obtain ⟨er, I2⟩ := z
        subst er
        have I3 : Inv X ps σ Hi t2 := IC.call' (ch := fp) I2.os I2.base I2.hok I2.bare fun b mb => let ⟨_, z1, z2, z3, z4, z5⟩ := (fC b mb).1; ⟨z3, z1, z4, z5⟩
        have nC : Hi sC.heap.objs.size = none := by
          rw [← loc]
          exact I2.free
        obtain ⟨mm, hm, _⟩ := I2.loc
        refine ⟨mm, by rw [← loc]; exact hm, fun g' sb => ?_⟩
        obtain ⟨f0, f1, f2, f3, f4, f5⟩ := IC.fpOk (Nat.le_refl _) nC
        exact ⟨.ref D, Hi, I3.turned (t' := t2.toks) (fun b o nb e => (sb.2 b nb).trans e) f0 f1 f3 f4 f5, rfl, qq⟩
      · refine thnF (T.item (X.blk sC HC scope ce fp) rfl rfl rfl calm i [] t _ Hi (fun _ _ => False) Ii (still Ii ni) ti go) fun r t2 z => ?_
        obtain ⟨u, er, z⟩ := z
        subst er
        refine thnF z fun _ t3 z => ?_
        obtain ⟨x, H3, I3, rx, yx, tn3, n3⟩ := z
        refine thnF (pg.run _ t3 _ H3 x u _ (I3.pinned (still I3 n3) (T.obj _ _ tn3)) rx (step x H3 yx)) fun _ t4 z => ?_
        obtain ⟨σ4, H4, I4, w4, q4⟩ := z
        refine wpAny_pure ?_
        refine (if_pos rfl).mpr ?_
        refine thnF (pe.run _ t4 σ4 H4 _ I4 q4) fun v t5 z => ?_
        obtain ⟨y, H5, I5, r5, k, S, n, rfl, at5, room, nx⟩ := z
        obtain ⟨tk, rfl⟩ := r5
        refine add_one (X := X.blk sC HC scope ce fp) I5 at5 room fun t6 I6 => ⟨N - (i + 1), by omega, i + 1, upd H5 D (SetO X.w D (fun j => S j || decide (j = k)) (if S k = true then n else n + 1)), rfl, ?_⟩
        have pin : ∀ b ∈ fp, ∀ o, t3.heap.get? b = some o → t6.heap.get? b = some o ∧ upd H5 D (SetO X.w D (fun j => S j || decide (j = k)) (if S k = true then n else n + 1)) b = none := fun b mb o e => let z := I6.pin (b, o) (List.mem_append_right _ (List.mem_append_right _ (mem_pinsAt mb e))); ⟨z.1, z.2.1⟩
        refine ⟨(I6.unpinned (pins := [])).weak (by rw [← w4, wipe_length]) fun j v e => ?_, T.keep _ _ _ tn3 fun b mb o e => (pin b mb o e).1, fun b mb => ?_, nx⟩
        · rw [← w4] at e
          exact (wipe_some e).1
        · obtain ⟨o, e, _⟩ := T.obj _ _ tn3 b mb
          exact (pin b mb o e).2
    exact PpSet.codeAny_compStart_set loop (T.self X.A 0 _ _ _ tD loop)
  rw [eS, ece, eC] at goal
  exact goal
end
/-- over a list that stays -/
theorem si_list {w : World} {K : PySem.W.Frag} {a : Addr} {xs : List V} {g : TG} {te : TE} {vs : List Nat} {σ : L2.St} {H1 : Hp} {D : Addr} {Qd : Hp → Prop} (Pv : Nat → Hp → Prop) (h0 : Pv 0 (upd H1 D (SetO w D (fun _ => false) 0))) (hl : ∀ i H, Pv i H → SqL K H a xs)
    (hs : ∀ i x H, xs[i]? = some x → Pv i H → g x (wipe σ vs) H fun σ3 H3 => wipe σ3 vs = wipe σ vs ∧ te σ3 H3 fun y H4 => ∃ (k : Int) (S : Int → Bool) (n : Nat), y = .int k ∧ H4 D = some (SetO w D S n) ∧ n + 1 < scanBound ∧
      Pv (i + 1) (upd H4 D (SetO w D (fun j => S j || decide (j = k)) (if S k = true then n else n + 1)))) (hd : ∀ i H, xs.length ≤ i → Pv i H → Qd H) :
    ∃ (Pv : Nat → Hp → Prop) (N : Nat), Pv 0 (upd H1 D (SetO w D (fun _ => false) 0)) ∧ ∀ i Hi, Pv i Hi →
      ((Itl K a).stop i Hi ∧ Qd Hi) ∨ (i < N ∧ (Itl K a).go i Hi ∧ ∀ x H2, (Itl K a).yld i Hi x H2 → g x (wipe σ vs) H2 fun σ3 H3 => wipe σ3 vs = wipe σ vs ∧ te σ3 H3 fun y H4 => ∃ (k : Int) (S : Int → Bool) (n : Nat), y = .int k ∧ H4 D = some (SetO w D S n) ∧ n + 1 < scanBound ∧
        Pv (i + 1) (upd H4 D (SetO w D (fun j => S j || decide (j = k)) (if S k = true then n else n + 1)))) := by
  refine ⟨Pv, xs.length, h0, fun i Hi pv => ?_⟩
  have sq := hl i Hi pv
  by_cases lt : i < xs.length
  · refine .inr ⟨lt, ⟨xs, xs[i], sq, by simp [lt]⟩, fun x H2 yx => ?_⟩
    obtain ⟨rfl, yx⟩ := yx
    exact hs i x _ (yx xs sq) pv
  · exact .inl ⟨⟨xs, sq, by omega⟩, hd i Hi (by omega) pv⟩
end SetI
set_option Elab.async false
set_option linter.all false
set_option maxRecDepth 100000
set_option maxHeartbeats 1000000
set_option exponentiation.threshold 20000
namespace K12
open PySem PySem.Spec PyProof.Rows L2 Fen
abbrev sFd : Stmt := topS 42
abbrev nFd : List Str := ["fence", "size", "bottom", "corners", "_", "lines", "heights", "pieces", "index", "height", "row", "rest", "corner"]
theorem scFd : FnScope nFd ["fence", "size"] (defScope sFd) := ⟨rfl, rfl, rfl, by decide +kernel, rfl, by decide +kernel, by decide +kernel⟩
theorem PcAt.put {K : PySem.W.Frag} {R S : Addr} {H : Hp} {p M : Addr} {c : Pc} {xs ys : List V} (h : PcAt K R S H p c) (hM : H M = some (.lst xs)) : PcAt K R S (upd H M (.lst ys)) p c := by
  cases c with
  | run x y u v m =>
    obtain ⟨dx, t, s, h1, h2, h3⟩ := RunAt.at_ h
    have ne : p ≠ M := fun z => by rw [z, hM] at h1; cases h1
    exact RunAt.mk ⟨dx, t, s, by rw [upd_ne ne]; exact h1, L2.SqT.put h2 hM SameX.put, L2.SqT.put h3 hM SameX.put⟩
  | strip a b l r =>
    obtain ⟨dx, t, s, h1, h2, h3⟩ := StripAt.at_ h
    have ne : p ≠ M := fun z => by rw [z, hM] at h1; cases h1
    exact StripAt.mk ⟨dx, t, s, by rw [upd_ne ne]; exact h1, L2.SqT.put h2 hM SameX.put, L2.SqT.put h3 hM SameX.put⟩
theorem inPs_app {ps qs : Pcs} {row x : Int} : InPs (ps ++ qs) row x ↔ InPs ps row x ∨ InPs qs row x := by
  unfold InPs
  constructor
  · rintro ⟨p, hp, h⟩
    rcases List.mem_append.mp hp with z | z
    · exact .inl ⟨p, z, h⟩
    · exact .inr ⟨p, z, h⟩
  · rintro (⟨p, hp, h⟩ | ⟨p, hp, h⟩)
    · exact ⟨p, List.mem_append_left _ hp, h⟩
    · exact ⟨p, List.mem_append_right _ hp, h⟩
theorem sep_app {ps qs : Pcs} (h1 : Sep ps) (h2 : Sep qs) (h : ∀ row row' x y, InPs ps row x → InPs qs row' y → row < row') : Sep (ps ++ qs) := by
  intro i j p q row row' x y l ei ej hp hq
  by_cases li : i < ps.length
  · rw [List.getElem?_append_left li] at ei
    by_cases lj : j < ps.length
    · rw [List.getElem?_append_left lj] at ej
      exact h1 i j p q row row' x y l ei ej hp hq
    · rw [List.getElem?_append_right (by omega)] at ej
      exact h row row' x y ⟨p, List.mem_of_getElem? ei, hp⟩ ⟨q, List.mem_of_getElem? ej, hq⟩
  · rw [List.getElem?_append_right (by omega)] at ei
    rw [List.getElem?_append_right (by omega)] at ej
    exact h2 _ _ p q row row' x y (by omega) ei ej hp hq
theorem row_lt {b r s : Int} (hb : 0 < b) (h : b * r < b * s) : r < s := Int.lt_of_mul_lt_mul_left h (by omega)
theorem prefs_app (ps qs : Pcs) : prefs ps ++ prefs qs = prefs (ps ++ qs) := by simp [prefs]
/-- the rows up to a height -/
def Cov (b n : Int) (hs : List Int) (e : Nat) (row : Int) : Prop := 0 < e ∧ ∃ lo hi, hs[0]? = some lo ∧ hs[e - 1]? = some hi ∧ n * lo ≤ b * row ∧ b * row ≤ n * hi
theorem cov_step {b n h row : Int} {hs : List Int} {e : Nat} (asc : hs.Pairwise (· < ·)) (he : hs[e]? = some h) (hn : 0 < n) :
    Cov b n hs (e + 1) row ↔ (Cov b n hs e row ∨ (0 < e ∧ ∃ l, hs[e - 1]? = some l ∧ n * l < b * row ∧ b * row < n * h)) ∨ b * row = n * h := by
  have le : e < hs.length := (List.getElem?_eq_some_iff.mp he).1
  obtain ⟨lo, h0⟩ : ∃ lo, hs[0]? = some lo := ⟨_, List.getElem?_eq_getElem (by omega)⟩
  have mono : ∀ {i j : Nat} {x y : Int}, hs[i]? = some x → hs[j]? = some y → i ≤ j → n * x ≤ n * y := fun {i j x y} hi hj ij => by
    refine Int.mul_le_mul_of_nonneg_left ?_ (by omega)
    by_cases q : i = j
    · subst q
      rw [hi] at hj
      cases hj
      exact Int.le_refl _
    · have := (Geo.asc_lt asc hi hj).mp (by omega)
      omega
  have m0 := mono h0 he (Nat.zero_le _)
  unfold Cov
  constructor
  · rintro ⟨_, lo', hi, a0, a1, a2, a3⟩
    rw [Nat.add_sub_cancel, he] at a1
    rw [h0] at a0
    cases a0
    cases a1
    by_cases q : e = 0
    · subst q
      rw [h0] at he
      cases he
      exact .inr (by omega)
    · obtain ⟨l, hl⟩ : ∃ l, hs[e - 1]? = some l := ⟨_, List.getElem?_eq_getElem (by omega)⟩
      by_cases c1 : b * row ≤ n * l
      · exact .inl (.inl ⟨by omega, lo, l, h0, hl, a2, c1⟩)
      · by_cases c2 : b * row = n * h
        · exact .inr c2
        · exact .inl (.inr ⟨by omega, l, hl, by omega, by omega⟩)
  · intro z
    refine ⟨by omega, lo, h, h0, by rw [Nat.add_sub_cancel]; exact he, ?_⟩
    rcases z with (⟨ep, lo', hi, a0, a1, a2, a3⟩ | ⟨ep, l, hl, a2, a3⟩) | z
    · rw [h0] at a0
      cases a0
      have := mono a1 he (by omega)
      omega
    · have := mono h0 hl (by omega)
      omega
    · omega
/-- what the step ahead of a height does: the strip below it -/
def TSt (K : PySem.W.Frag) (R S : Addr) : TS := fun D σ H => ∃ (t c o L G M : Addr) (b n h : Int) (e : Nat) (z4 z10 z11 : Option V) (ks : Pts) (os : List Int) (ls : List (Addr × Ln)) (hs : List Int) (ps : Pcs),
  σ = [some (.ref t), some (.int n), some (.int b), some (.ref c), z4, some (.ref L), some (.ref G), some (.ref M), some (.int (e : Nat)), some (.int h), z10, z11, none] ∧
  FAt K H t c o b ks os ∧ IsF b (ks.map (·.2)) os ∧ 3 ≤ ks.length ∧ 1 ≤ n ∧ n ≤ 10 ^ 30 ∧ SqL K H L (lrefs ls) ∧ LnAt K H ls ∧ ls.map (·.2) = linesOf b n (ks.map (·.2)) os ∧ SqL K H G (hs.map V.int) ∧ hs[e]? = some h ∧ hs.Pairwise (· < ·) ∧ (∀ h, h ∈ hs ↔ ∃ x ∈ ks, x.2.2 = h) ∧
  H M = some (.lst (prefs ps)) ∧ PcsAt K R S H ps ∧ (∀ p ∈ ps, PcOk p.2) ∧ Sep ps ∧ ps.length ≤ 2 * e ∧ e ≤ 10 ∧ (∀ row x, InPs ps row x ↔ Cov b n hs e row ∧ InL (ls.map (·.2)) x row) ∧
  ∀ H' ps', (∀ a o, a ≠ M → H a = some o → H' a = some o) → H' M = some (.lst (prefs ps')) → PcsAt K R S H' ps' → (∀ p ∈ ps', PcOk p.2) → Sep ps' → ps'.length ≤ 2 * e + 1 →
    (∀ row x, InPs ps' row x ↔ (Cov b n hs e row ∨ (0 < e ∧ ∃ l, hs[e - 1]? = some l ∧ n * l < b * row ∧ b * row < n * h)) ∧ InL (ls.map (·.2)) x row) → D.nx σ H'
section
variable {P : Program} {w : World} {K : PySem.W.Frag} {mg : Str → Option Value} {base : Heap}
def spFd (K : PySem.W.Frag) (R S : Addr) : Sp := fun vs H Q _ => ∃ (t c o : Addr) (b n : Int) (ks : Pts) (os : List Int), vs = [.ref t, .int n] ∧ FAt K H t c o b ks os ∧ IsF b (ks.map (·.2)) os ∧ 3 ≤ ks.length ∧ 1 ≤ n ∧ n ≤ 10 ^ 30 ∧
  PL K R S (fun row px => Geo.InF n (ks.map (·.2)) os (b * px) (b * row)) 30 H Q
theorem ok_fd {f R Sc fL fS fR : Addr} {fd fdL fdS fdR : FuncData} {k : Nat} (F : Fun K "field_pieces" "field_pieces" sFd f fd) (T : Nms mg) (mso : mg "sorted" = none) (mdm : mg "divmod" = none)
    (CL : Cal P w K mg base (k + 1) "field_lines" fL fdL ["fence", "size"] (spFl K)) (CS : Cal P w K mg base (k + 1) "strips_between" fS fdS ["fence", "size", "lines", "low", "high"] (spSb K R Sc)) (CR : Cal P w K mg base (k + 1) "row_runs" fR fdR ["lines", "row"] (spRr K R Sc)) :
    FnOk P w K mg base CX0 (k + 1 + 1) f fd ["fence", "size"] (spFd K R Sc) := by
  refine F.ok scFd (fun vs H Q E h => ?_) (fun cdv A outer s H vs Q E hr h => ?_)
  · obtain ⟨t, c, o, b, n, ks, os, rfl, _⟩ := h
    rfl
  · obtain ⟨t, c, o, b, n, ks, os, rfl, fa, isf, l3, n1, n2, q⟩ := h
    refine ⟨_, pss_cons (ps_asg (pv 0) (pg_tup rfl (pgs_cons (pg_name (i := 2) scFd.nd rfl (.inl rfl)) (pgs_cons (pg_name (i := 3) scFd.nd rfl (.inl rfl)) (pgs_cons (pg_name (i := 4) scFd.nd rfl (.inl rfl)) pgs_nil)))))
      (pss_cons (ps_set (i := 5) scFd.nd rfl (.inl rfl) (pe_cal CL hr (pa_cons (pv 0) (pa_cons (pv 1) pa_nil))))
      (pss_cons (ps_set (i := 6) scFd.nd rfl (.inl rfl) (pe_callB (cr_sortedSet rfl) (by rfl) mso (by decide +kernel) (pa_cons (SetI.pe_si (own := [("corner", 12)]) (g := gName 12) (te := tOp (rIxT K) (tVar 12) (tC (.int 1))) rfl scFd.nd (pi_list (pv 3)) (blkOk_by (N := nFd) (sc := defScope sFd) (by decide +kernel)) (fun _ _ _ _ _ => pg_name (i := 12) scFd.nd rfl (Or.inl rfl)) (fun _ _ _ _ _ => pe_ix ix_tup (pv 12) pe_int (fun _ _ => rfl))) pa_nil)))
      (pss_cons (ps_set (i := 7) scFd.nd rfl (.inl rfl) (pe_lst pa_nil))
      (pss_cons (ps_for PassesOwn.never rfl (pi_enum (by rfl) T.menum (pa_cons (pv 6) pa_nil)) (pg_tup rfl (pgs_cons (pg_name (i := 8) scFd.nd rfl (.inl rfl)) (pgs_cons (pg_name (i := 9) scFd.nd rfl (.inl rfl)) pgs_nil)))
        (pss_cons (PS.of (TSt K R Sc) (ps_if (pt_cmpR op_gt (pv 8) pe_int (nomark _)) (pss_one (ps_expr (pe_bm PySem.F.plainAttrs_list PySem.F.slot_list_extend PySem.F.type_list_extend mt_extend (pv 7) (pa_cons (pe_cal CS hr (pa_cons (pv 0) (pa_cons (pv 1) (pa_cons (pv 5) (pa_cons (pe_ix ix_list (pv 6) (pe_op op_sub (pv 8) pe_int) (fun _ _ => rfl)) (pa_cons (pv 9) pa_nil)))))) pa_nil)))) pss_nil) ?s0)
        (pss_cons (ps_asg (pe_callB call_divmodW (by rfl) mdm (by decide +kernel) (pa_cons (pe_op op_mulW (pv 1) (pv 9)) (pa_cons (pv 2) pa_nil))) (pg_tup rfl (pgs_cons (pg_name (i := 10) scFd.nd rfl (.inl rfl)) (pgs_cons (pg_name (i := 11) scFd.nd rfl (.inl rfl)) pgs_nil))))
        (pss_one (ps_if (pt_cmpR op_eq (pv 11) pe_int (nomark _)) (pss_one (ps_expr (pe_bm PySem.F.plainAttrs_list PySem.F.slot_list_extend PySem.F.type_list_extend mt_extend (pv 7) (pa_cons (pe_cal CR hr (pa_cons (pv 5) (pa_cons (pv 10) pa_nil))) pa_nil)))) pss_nil)))))
      (pss_one (ps_ret (pv 7))))))), ?_⟩
    case s0 =>
      rintro D σ H ⟨t, c, o, L, G, M, b, n, h, e, z4, z10, z11, ks, os, ls, hs, ps, rfl, fa, isf, l3, n1, n2, hL, hT, el, hG, he, asc, mem, hM, hA, ok, sep, lp, e10, iff, go⟩
      refine ⟨_, rfl, _, _, rfl, rfl, _, rfl, ite2 (fun e0 => ?_) (fun e0 => ?_)⟩
      · have ep : 0 < e := by have : (0 : Int) < (e : Nat) := of_decide_eq_true e0; omega
        have le : e < hs.length := (List.getElem?_eq_some_iff.mp he).1
        obtain ⟨l, hl⟩ : ∃ l, hs[e - 1]? = some l := ⟨_, List.getElem?_eq_getElem (by omega)⟩
        have lh : l < h := (Geo.asc_lt asc hl he).mp (by omega)
        have gi : atI (hs.map V.int) ((e : Nat) - 1 : Int) = some (.int l) := by
          rw [show ((e : Nat) : Int) - 1 = ((e - 1 : Nat) : Int) by omega]
          exact atI_nat (by rw [List.getElem?_map, hl]; rfl)
        have btw : ∀ x ∈ ks, x.2.2 ≤ l ∨ h ≤ x.2.2 := fun x hx => by
          obtain ⟨j, hj⟩ := List.mem_iff_getElem?.mp ((mem x.2.2).mpr ⟨x, hx, rfl⟩)
          by_cases q : j < e
          · by_cases q2 : j = e - 1
            · subst q2
              rw [hl] at hj
              cases hj
              exact .inl (Int.le_refl _)
            · have := (Geo.asc_lt asc hj hl).mp (by omega)
              exact .inl (by omega)
          · by_cases q2 : j = e
            · subst q2
              rw [he] at hj
              cases hj
              exact .inr (Int.le_refl _)
            · have := (Geo.asc_lt asc he hj).mp (by omega)
              exact .inr (by omega)
        refine ⟨.ref M, rfl, .inl ⟨rfl, _, SqL.of hM⟩, ?_⟩
        refine ⟨.ref t, rfl, .int n, rfl, .ref L, rfl, .ref G, rfl, .int (e : Nat), rfl, _, _, rfl, rfl, G, hs.map V.int, _, .int l, rfl, rfl, hG, gi, .int h, rfl, ?_⟩
        refine ⟨t, c, o, L, b, n, l, h, ks, os, ls, rfl, fa, isf, l3, n1, n2, hL, hT, el, lh, btw, (mem l).mp (List.mem_of_getElem? hl), (mem h).mp (List.mem_of_getElem? he), fun H2 M2 qs s2 nM2 hM2 hA2 ok2 sep2 ln2 iff2 => ?_⟩
        refine ⟨M, M2, prefs ps, prefs qs, rfl, rfl, s2 _ _ hM, hM2, by rw [prefs_len, prefs_len]; exact Nat.le_trans (show ps.length + qs.length ≤ 21 by omega) (by decide), ?_⟩
        refine go _ (ps ++ qs) (fun a o ne e => by rw [upd_ne ne]; exact s2 _ _ e) (by rw [upd_same, prefs_app]) (fun x hx => ?_) (fun x hx => ?_) (sep_app sep sep2 fun row row' x y z1 z2 => ?_) (by rw [List.length_append]; omega) fun row x => ?_
        · rcases List.mem_append.mp hx with z | z
          · exact ((hA x z).same s2).put (s2 _ _ hM)
          · exact (hA2 x z).put (s2 _ _ hM)
        · exact (List.mem_append.mp hx).elim (ok x) (ok2 x)
        · obtain ⟨_, lo, hi, _, h2, _, h4⟩ := ((iff row x).mp z1).1
          rw [hl] at h2
          cases h2
          have := ((iff2 row' y).mp z2).1.1
          have b1' := isf.b1
          exact row_lt (b := b) (by omega) (by omega)
        · rw [inPs_app, iff, iff2]
          constructor
          · rintro (⟨z1, z2⟩ | ⟨z1, z2⟩)
            · exact ⟨.inl z1, z2⟩
            · exact ⟨.inr ⟨ep, l, hl, z1⟩, z2⟩
          · rintro ⟨z1 | ⟨_, l', h1, z1⟩, z2⟩
            · exact .inl ⟨z1, z2⟩
            · rw [hl] at h1
              cases h1
              exact .inr ⟨z1, z2⟩
      · have ez : e = 0 := by
          have : ¬ (0 : Int) < (e : Nat) := fun z => e0 (decide_eq_true z)
          omega
        refine go _ ps (fun a o _ e => e) hM hA ok sep (by omega) fun row x => ?_
        rw [iff]
        constructor
        · exact fun z => ⟨.inl z.1, z.2⟩
        · rintro ⟨z1 | ⟨z, _⟩, z2⟩
          · exact ⟨z1, z2⟩
          · omega
    have b1 := isf.b1
    have b2 := isf.b2
    have l10 : ks.length ≤ 10 := by have := isf.l2; rw [List.length_map] at this; exact this
    have nb : n.natAbs < 2 ^ 100 := by
      have z : (10 : Int) ^ 30 = 1000000000000000000000000000000 := by decide
      have w : (2 : Nat) ^ 100 = 1267650600228229401496703205376 := by decide
      rw [z] at n2
      rw [w]
      omega
    have bb : b.natAbs < 2 ^ 100 := Nat.lt_of_le_of_lt (show b.natAbs ≤ 30 by omega) (by decide)
    have O : Out (ks.map (·.2)) := by
      rcases isf.sh with z | ⟨a, d, z, _⟩ | z
      · rw [List.length_map] at z
        omega
      · have := congrArg List.length z
        rw [List.length_map] at this
        simp at this
        omega
      · exact z.2
    refine ⟨.ref t, rfl, t, _, rfl, fa.tup, rfl, .int b, [.ref c, .ref o], rfl, .ref c, [.ref o], rfl, .ref o, [], rfl, rfl, ?_⟩
    refine ⟨.ref t, rfl, .int n, rfl, t, c, o, b, n, ks, os, rfl, fa, isf, l3, n1, n2, fun H1 L ls s1 nL gL hT el => ?_⟩
    have f1 := fa.same s1
    refine ⟨.ref c, rfl, c, rfl, ⟨_, f1.cor⟩, fun D nD => ?_⟩
    refine SetI.si_list (K := K) (a := c) (xs := refs ks) (fun i H' => Same H1 H' ∧ ∃ (S : Int → Bool) (m : Nat), H' D = some (SetO w D S m) ∧ m ≤ i ∧ i ≤ ks.length ∧ ∀ k, S k = true ↔ ∃ j x, j < i ∧ ks[j]? = some x ∧ x.2.2 = k) ⟨same_new nD, _, 0, upd_same, Nat.le_refl _, Nat.zero_le _, fun k => ⟨fun z => (nomatch z), fun ⟨_, _, z, _⟩ => absurd z (Nat.not_lt_zero _)⟩⟩ (fun i H' z => z.1.seq f1.cor) ?_ ?_
    · rintro i v H' hv ⟨s', S, m, hD, lm, li, iffS⟩
      obtain ⟨p, hp, rfl⟩ := refs_get hv
      have lp := (List.getElem?_eq_some_iff.mp hp).1
      have T' := (f1.same s').pts p (List.mem_of_getElem? hp)
      refine ⟨rfl, .ref p.1, rfl, p.1, _, 1, .int p.2.2, rfl, rfl, T', atI_nat (j := 1) rfl, p.2.2, S, m, rfl, hD, by show m + 1 < scanBound; unfold scanBound; omega, fun a u e => ?_, _, _, upd_same, ?_, by omega, fun k => ?_⟩
      · rw [upd_ne (fun z => by rw [z, nD] at e; cases e)]
        exact s' a u e
      · split <;> omega
      · rw [Bool.or_eq_true, decide_eq_true_eq, iffS]
        constructor
        · rintro (⟨j, x, h1, h2, h3⟩ | rfl)
          · exact ⟨j, x, by omega, h2, h3⟩
          · exact ⟨i, p, by omega, hp, rfl⟩
        · rintro ⟨j, x, h1, h2, h3⟩
          by_cases e : j = i
          · subst e
            rw [hp] at h2
            cases h2
            exact .inr h3.symm
          · exact .inl ⟨j, x, by omega, h2, h3⟩
    rintro i H2 li ⟨s2, S, m, hD, lm, li2, iffS⟩
    rw [refs_len] at li
    have ei : i = ks.length := by omega
    subst ei
    refine ⟨D, S, m, rfl, hD, by omega, fun hs G asc memS lenS nG => ?_⟩
    have mem : ∀ h, h ∈ hs ↔ ∃ x ∈ ks, x.2.2 = h := fun h => by
      rw [memS, iffS]
      constructor
      · rintro ⟨j, x, _, h2, h3⟩
        exact ⟨x, List.mem_of_getElem? h2, h3⟩
      · rintro ⟨x, hx, h3⟩
        obtain ⟨j, hj⟩ := List.mem_iff_getElem?.mp hx
        exact ⟨j, x, (List.getElem?_eq_some_iff.mp hj).1, hj, h3⟩
    refine ⟨by show 0 ≤ sizeLine; decide, fun M nM => ?_⟩
    have sG := same_new (o := .lst (hs.map V.int)) nG
    have gG : (upd H2 G (.lst (hs.map V.int))) G = some (.lst (hs.map V.int)) := upd_same
    generalize upd H2 G (.lst (hs.map V.int)) = H3 at sG gG nM ⊢
    have s3 := s2.trans sG
    have sM := same_new (o := .lst []) nM
    have gM : (upd H3 M (.lst [])) M = some (.lst []) := upd_same
    generalize upd H3 M (.lst []) = H4 at sM gM ⊢
    have s4 := s3.trans sM
    have G4 := sM _ _ gG
    have L4 := s4 _ _ gL
    have T4 := hT.same s4
    have f4 := f1.same s4
    have lsm : ∀ l ∈ ls, LSm l.2 ∧ BSm l.2 := fun l hl => by
      have m1 : l.2 ∈ ls.map (·.2) := List.mem_map.mpr ⟨l, hl, rfl⟩
      rw [el] at m1
      obtain ⟨i, hi, e⟩ := List.mem_map.mp m1
      rw [← e]
      exact lnOf_small nb (by rw [List.length_map]; exact l3) O isf.co (List.mem_range.mp hi)
    have lls : ls.length = ks.length := by
      have := congrArg List.length el
      unfold linesOf at this
      simp only [List.length_map, List.length_range] at this
      exact this
    have two : ∃ x ∈ ks, ∃ y ∈ ks, x.2.2 < y.2.2 := Classical.byContradiction fun no => by
      have eq : ∀ x ∈ ks, ∀ y ∈ ks, x.2.2 = y.2.2 := fun x hx y hy => by
        have a : ¬ x.2.2 < y.2.2 := fun z => no ⟨x, hx, y, hy, z⟩
        have b : ¬ y.2.2 < x.2.2 := fun z => no ⟨y, hy, x, hx, z⟩
        omega
      obtain ⟨x, ex⟩ : ∃ x, ks[0]? = some x := ⟨_, List.getElem?_eq_getElem (by omega)⟩
      obtain ⟨y, ey⟩ : ∃ y, ks[1]? = some y := ⟨_, List.getElem?_eq_getElem (by omega)⟩
      obtain ⟨z, ez⟩ : ∃ z, ks[2]? = some z := ⟨_, List.getElem?_eq_getElem (by omega)⟩
      have tl := O.left 0 2 x.2 y.2 z.2 (by rw [List.length_map]; omega) (by rw [List.length_map]; omega) (by rw [List.getElem?_map, ex]; rfl) (by rw [List.length_map, Nat.mod_eq_of_lt (by omega), List.getElem?_map, ey]; rfl) (by rw [List.getElem?_map, ez]; rfl) (by omega) (by rw [List.length_map, Nat.mod_eq_of_lt (by omega)]; omega)
      have h1 := eq x (List.mem_of_getElem? ex) y (List.mem_of_getElem? ey)
      have h2 := eq x (List.mem_of_getElem? ex) z (List.mem_of_getElem? ez)
      unfold Hull.turn at tl
      rw [← h1, ← h2, Int.sub_self, Int.mul_zero, Int.zero_mul] at tl
      omega
    have lnE : ∀ (i : Nat) (y : Addr × Ln), ls[i]? = some y → y.2 = Geo.lnOf b n (ks.map (·.2)) os i := fun i y hy => by
      have li : i < ks.length := by rw [← lls]; exact (List.getElem?_eq_some_iff.mp hy).1
      have z := congrArg (fun l => l[i]?) el
      unfold linesOf at z
      simp only [List.getElem?_map, hy, List.length_map, Option.map_some] at z
      rw [List.getElem?_range li] at z
      exact Option.some.inj z
    have sides : (∃ l ∈ ls, 0 < l.2.1) ∧ (∃ l ∈ ls, l.2.1 < 0) := by
      obtain ⟨x, hx, y, hy, lt⟩ := two
      obtain ⟨i, hi⟩ := List.mem_iff_getElem?.mp hx
      obtain ⟨j, hj⟩ := List.mem_iff_getElem?.mp hy
      have at_ : ∀ {r : Nat} {c d : Addr × Hull.P}, ks[r]? = some c → ks[(r + 1) % ks.length]? = some d → ∃ l ∈ ls, l.2.1 = Geo.lnA c.2 d.2 := fun {r c d} ec ed => by
        have lr : r < ls.length := by rw [lls]; exact (List.getElem?_eq_some_iff.mp ec).1
        refine ⟨ls[r], List.getElem_mem lr, ?_⟩
        rw [lnE r _ (List.getElem?_eq_getElem lr)]
        unfold Geo.lnOf
        rw [List.length_map, getD_snd ec, getD_snd ed]
      constructor
      · obtain ⟨r, c, d, lr, ec, ed, hc, hd⟩ := Geo.around (fun x : Addr × Hull.P => y.2.2 ≤ x.2.2) hj hi (Int.le_refl _) (by omega)
        obtain ⟨l, ml, e⟩ := at_ ec ed
        exact ⟨l, ml, by rw [e]; exact Geo.lnA_pos (by omega)⟩
      · obtain ⟨r, c, d, lr, ec, ed, hc, hd⟩ := Geo.around (fun y : Addr × Hull.P => y.2.2 ≤ x.2.2) hi hj (Int.le_refl _) (by omega)
        obtain ⟨l, ml, e⟩ := at_ ec ed
        exact ⟨l, ml, by rw [e]; exact Geo.lnA_neg (by omega)⟩
    refine ⟨.ref G, rfl, G, _, rfl, SqL.of G4, ?_⟩
    refine for_it (walk_enum (K := K) (a := G) (xs := hs.map V.int)) (fun e σ H' => ∃ z4 z8 z9 z10 z11 ps, σ = [some (.ref t), some (.int n), some (.int b), some (.ref c), z4, some (.ref L), some (.ref G), some (.ref M), z8, z9, z10, z11, none] ∧ Same H3 H' ∧ H' M = some (.lst (prefs ps)) ∧ PcsAt K R Sc H' ps ∧ (∀ p ∈ ps, PcOk p.2) ∧ Sep ps ∧ ps.length ≤ 2 * e ∧ ∀ row x, InPs ps row x ↔ Cov b n hs e row ∧ InL (ls.map (·.2)) x row)
      ⟨_, _, _, _, _, [], rfl, sM, gM, (fun x hx => absurd hx List.not_mem_nil), (fun x hx => absurd hx List.not_mem_nil), sep_nil, by simp, fun row x => ⟨fun z => absurd z inPs_nil, fun z => absurd z.1.1 (Nat.lt_irrefl _)⟩⟩ (fun e σ H' _ z => ?_) ?_ ?_
    · obtain ⟨_, _, _, _, _, _, _, z, _⟩ := z
      exact SqL.of (z _ _ gG)
    · rintro e x σ H7 H8 le ⟨z4, z8, z9, z10, z11, ps, rfl, s7, hM, hA, ok, sep, lp, iff⟩ ⟨U, x1, x2, rfl, nU, rfl, e1, e2⟩
      have ex1 : x1 = .int (e : Nat) := (Option.some.inj e1).symm
      subst ex1
      rw [List.length_map] at le
      obtain ⟨h, he⟩ : ∃ h, hs[e]? = some h := ⟨_, List.getElem?_eq_getElem le⟩
      have ex2 : x2 = .int h := by
        replace e2 : (hs.map V.int)[e]? = some x2 := e2
        rw [List.getElem?_map, he] at e2
        exact (Option.some.inj e2).symm
      subst ex2
      have s8 := same_new (o := .tup [.int (e : Nat), .int h]) nU
      have s38 := s7.trans s8
      have f3 := f1.same s3
      refine ⟨U, _, rfl, SqT.of upd_same, rfl, .int (e : Nat), [.int h], rfl, .int h, [], rfl, rfl, ?_⟩
      refine ⟨t, c, o, L, G, M, b, n, h, e, z4, z10, z11, ks, os, ls, hs, ps, rfl, f3.same s38, isf, l3, n1, n2, SqL.of (s38 _ _ (s3 _ _ gL)), (hT.same s3).same s38, el, SqL.of (s38 _ _ gG), he, asc, mem, s8 _ _ hM, hA.same s8, ok, sep, lp, by omega, iff, fun H9 qs ch gM9 hA9 ok9 sep9 ln9 iff9 => ?_⟩
      have s39 : Same H3 H9 := fun a u e => ch a u (fun z => by rw [z, nM] at e; cases e) (s38 a u e)
      obtain ⟨xh, hxh, exh⟩ := (mem h).mp (List.mem_of_getElem? he)
      have hb : h.natAbs < 2 ^ 100 := by rw [← exh]; exact (cor_small (isf.co xh.2 (List.mem_map.mpr ⟨xh, hxh, rfl⟩))).2
      refine ⟨_, rfl, _, rfl, _, _, rfl, rfl, wide_mul nb hb (by decide) (by decide) (by decide), .int b, rfl, n * h, b, rfl, ⟨by omega, PyProof.noPylong_of_log2 (wide_div (i := 0) (by omega) bb (by decide) (by decide)).2⟩, fun z nz => ?_⟩
      refine ⟨z, _, rfl, SqT.of upd_same, rfl, .int (n * h / b), [.int (n * h % b)], rfl, .int (n * h % b), [], rfl, rfl, ?_⟩
      have s10 := same_new (o := .tup [.int (n * h / b), .int (n * h % b)]) nz
      generalize upd H9 z (.tup [.int (n * h / b), .int (n * h % b)]) = H10 at s10 ⊢
      have s310 := s39.trans s10
      have gM10 := s10 _ _ gM9
      have A10 := hA9.same s10
      have cs := fun row : Int => cov_step (b := b) (row := row) asc he (show 0 < n by omega)
      refine ⟨_, rfl, rfl, _, rfl, ite2 (fun ed => ?_) (fun ed => ?_)⟩
      · have er : n * h % b = 0 := V.int.inj (of_decide_eq_true ed)
        have rs : (n * h / b).natAbs < 2 ^ 1000 := Nat.lt_of_le_of_lt (Int.natAbs_ediv_le_natAbs _ _) (Nat.lt_trans (wide_lt nb hb) (by decide))
        refine ⟨.ref M, rfl, .inl ⟨rfl, _, SqL.of gM10⟩, .ref L, rfl, .int (n * h / b), rfl, L, ls, n * h / b, rfl, SqL.of (s310 _ _ (s3 _ _ gL)), (hT.same s3).same s310, lsm, rs, by omega, sides.1, sides.2, fun H11 M2 rs s11 nM2 gM2 hA2 ok2 sep2 ln2 iff2 => ?_⟩
        have gM11 := s11 _ _ gM10
        refine ⟨M, M2, prefs qs, prefs rs, rfl, rfl, gM11, gM2, by rw [prefs_len, prefs_len]; exact Nat.le_trans (show qs.length + rs.length ≤ 30 by omega) (by decide), ?_⟩
        refine ⟨_, _, _, _, _, qs ++ rs, rfl, fun a u e => ?_, by rw [upd_same, prefs_app], fun x hx => ?_, fun x hx => ?_, sep_app sep9 sep2 fun row row' x y w1 w2 => ?_, by rw [List.length_append]; omega, fun row x => ?_⟩
        · rw [upd_ne (fun z => by rw [z, nM] at e; cases e)]
          exact s11 _ _ (s310 a u e)
        · rcases List.mem_append.mp hx with w | w
          · exact ((A10 x w).same s11).put gM11
          · exact (hA2 x w).put gM11
        · exact (List.mem_append.mp hx).elim (ok9 x) (ok2 x)
        · have w3 := ((iff2 row' y).mp w2).1
          have w4 : b * row' = n * h := (div_iff (by omega) er).mpr w3
          refine row_lt (b := b) (by omega) ?_
          rcases ((iff9 row x).mp w1).1 with ⟨ep, lo, hi, a0, a1, a2, a3⟩ | ⟨ep, l, hl, a2, a3⟩
          · have lt : hi < h := (Geo.asc_lt asc a1 he).mp (by omega)
            have : n * hi < n * h := Int.mul_lt_mul_of_pos_left lt (by omega)
            omega
          · omega
        · rw [inPs_app, iff9, iff2, cs row, div_iff (b := b) (v := n * h) (q := row) (by omega) er]
          constructor
          · rintro (⟨w1, w2⟩ | ⟨rfl, w2⟩)
            · exact ⟨.inl w1, w2⟩
            · exact ⟨.inr rfl, w2⟩
          · rintro ⟨w1 | rfl, w2⟩
            · exact .inl ⟨w1, w2⟩
            · exact .inr ⟨rfl, w2⟩
      · have er : n * h % b ≠ 0 := fun w => by
          have w2 : V.int (n * h % b) = V.int 0 := congrArg V.int w
          exact ed (decide_eq_true w2)
        refine ⟨_, _, _, _, _, qs, rfl, s310, gM10, A10, ok9, sep9, by omega, fun row x => ?_⟩
        rw [iff9, cs row]
        constructor
        · exact fun w => ⟨.inl w.1, w.2⟩
        · rintro ⟨w1 | w1, w2⟩
          · exact ⟨w1, w2⟩
          · exact absurd (by rw [← w1, Int.mul_emod_right]) er
    · rintro σ H7 ⟨z4, z8, z9, z10, z11, ps, rfl, s7, hM, hA, ok, sep, lp, iff⟩
      rw [List.length_map] at lp iff
      refine ⟨_, rfl, q _ M ps (s1.trans (s3.trans s7)) ((s1.trans s3).free nM) hM hA ok sep (by omega) fun row x => ?_⟩
      have all : InL (ls.map (·.2)) x row ↔ Geo.InF n (ks.map (·.2)) os (b * x) (b * row) := by
        rw [Geo.inF_lines (by rw [List.length_map]; exact l3) O (by omega), el]
        unfold InL linesOf
        constructor
        · intro h i hi
          exact h _ (List.mem_map.mpr ⟨i, List.mem_range.mpr hi, rfl⟩)
        · intro h y hy
          obtain ⟨i, hi, rfl⟩ := List.mem_map.mp hy
          exact h i (List.mem_range.mp hi)
      rw [iff, all]
      refine ⟨fun z => z.2, fun z => ⟨?_, z⟩⟩
      obtain ⟨up, dn⟩ := z.heights (by rw [List.length_map]; exact l3) O (by omega)
      obtain ⟨x0, hx0⟩ : ∃ x, x ∈ ks := List.exists_mem_of_length_pos (by omega)
      have hne : 0 < hs.length := List.length_pos_of_mem ((mem _).mpr ⟨x0, hx0, rfl⟩)
      obtain ⟨lo, h0⟩ : ∃ lo, hs[0]? = some lo := ⟨_, List.getElem?_eq_getElem hne⟩
      obtain ⟨hi, h1⟩ : ∃ hi, hs[hs.length - 1]? = some hi := ⟨_, List.getElem?_eq_getElem (by omega)⟩
      have at_ : ∀ c ∈ ks.map (·.2), ∃ j, hs[j]? = some c.2 := fun c hc => by
        obtain ⟨y, hy, rfl⟩ := List.mem_map.mp hc
        exact List.mem_iff_getElem?.mp ((mem _).mpr ⟨y, hy, rfl⟩)
      refine ⟨hne, lo, hi, h0, h1, dn lo fun c hc => ?_, up hi fun c hc => ?_⟩
      · obtain ⟨j, hj⟩ := at_ c hc
        have := Geo.asc_lt asc hj h0
        omega
      · obtain ⟨j, hj⟩ := at_ c hc
        have lj := (List.getElem?_eq_some_iff.mp hj).1
        have := Geo.asc_lt asc h1 hj
        omega
end
end K12
set_option Elab.async false
set_option linter.all false
set_option maxRecDepth 100000
set_option maxHeartbeats 1000000
/-! sorted(xs), xs a list of (int, int, truth value), equal ints with equal truth values -/
namespace Tri
open PySem PySem.Spec PyProof.Rows L2 Srt SrtO
def IsTri (h : Heap) (v : Value) (x y : Int) (b : Bool) : Prop := ∃ a o t u n, v = .ref a ∧ h.get? a = some o ∧ o.cls = .type "tuple" ∧ o.data = .seq #[.int x t, .int y u, .bool b] n
theorem IsTri.stays {g h : Heap} {v : Value} {x y : Int} {b : Bool} (T : IsTri g v x y b) (k : ∀ a o, g.get? a = some o → o.cls = .type "tuple" → h.get? a = some o) : IsTri h v x y b :=
  let ⟨a, o, t, u, n, e1, e2, e3, e4⟩ := T
  ⟨a, o, t, u, n, e1, k _ _ e2 e3, e3, e4⟩
section
variable {prog : Program} {w : World} {A : Around} {E : Value → Shared → Prop} {s : Shared}
theorem tri_cmp {vs : List Value} {k : Value → Int × Int} {f : Value → Bool} (hp : ∀ v ∈ vs, IsTri s.heap v (k v).1 (k v).2 (f v)) (un : ∀ v ∈ vs, ∀ u ∈ vs, k v = k u → f v = f u) :
    Cmp prog w A s (tuples' true) (fun p => p.1 ∈ vs) (lt2 fun v u => lexB (k v) (k u)) := by
  intro p q mp mq
  have uq := un _ mp _ mq
  have T1 := hp _ mp
  have T2 := hp _ mq
  show wpAny (model prog w) A (keyLt' (tuples' true) p.1 q.1) (fun r s' => s' = s ∧ r = lexB (k p.1) (k q.1)) (fun _ _ => False) s
  obtain ⟨x1, ex1⟩ : ∃ x, x = k p.1 := ⟨_, rfl⟩
  obtain ⟨x2, ex2⟩ : ∃ x, x = k q.1 := ⟨_, rfl⟩
  obtain ⟨b1, eb1⟩ : ∃ x, x = f p.1 := ⟨_, rfl⟩
  obtain ⟨b2, eb2⟩ : ∃ x, x = f q.1 := ⟨_, rfl⟩
  rw [← ex1, ← eb1] at T1
  rw [← ex2, ← eb2] at T2
  rw [← ex1, ← ex2, ← eb1, ← eb2] at uq
  rw [← ex1, ← ex2]
  obtain ⟨a1, o1, t1, u1, n1, r1, h1, c1, d1⟩ := T1
  obtain ⟨a2, o2, t2, u2, n2, r2, h2, c2, d2⟩ := T2
  rw [r1, r2]
  obtain ⟨x, y⟩ := x1
  obtain ⟨z, u⟩ := x2
  refine PySem.W.kat_lt h1 d1 h2 d2 ?_
  refine (show PySem.W.KatLex prog w A true (decide (3 < 3)) _ [(.int x t1, .int z t2), (.int y u1, .int u u2), (.bool b1, .bool b2)] 0 s from ?_)
  refine PySem.W.kat_cons (SeqAt.EqAt.int_int x t1 z t2 prog w _ _ (PySem.W.kat_go (fun e1 => ?_) fun e1 => ?_))
  · obtain rfl : x = z := by simpa using e1
    refine PySem.W.kat_yes (PySem.W.kat_cons (SeqAt.EqAt.int_int y u1 u u2 prog w _ _ (PySem.W.kat_go (fun e2 => ?_) fun e2 => ?_)))
    · obtain rfl : y = u := by simpa using e2
      obtain rfl : b1 = b2 := uq rfl
      have no : lexB (x, y) (x, y) = false := by unfold lexB; simp
      refine PySem.W.kat_yes (PySem.W.kat_cons (SeqAt.EqAt.bool_bool b1 b1 prog w _ _ (PySem.W.kat_go (fun _ => PySem.W.kat_yes (PySem.W.kat_nil ⟨rfl, no.symm⟩)) fun e3 => ?_)))
      simp at e3
    · have e3 : decide (y < u) = lexB (x, y) (x, u) := by unfold lexB; simp
      exact PySem.W.kat_no (PySem.W.kat_one _ _ (PyProof.Rows.lt_int (show s = s ∧ decide (y < u) = lexB (x, y) (x, u) from ⟨rfl, e3⟩)))
  · have ne : ¬ x = z := by simpa using e1
    have e3 : decide (x < z) = lexB (x, y) (z, u) := by unfold lexB; rw [if_neg ne]
    exact PySem.W.kat_no (oneLt_int (show s = s ∧ decide (x < z) = lexB (x, y) (z, u) from ⟨rfl, e3⟩))
theorem heads {h : Heap} : ∀ {vs : List Value}, (∀ v ∈ vs, ∃ x y b, IsTri h v x y b) → ∃ fs : List Value, PySem.W.KatTups h vs fs ∧ fs.length = vs.length ∧ ∀ f ∈ fs, ∃ x t, f = Value.int x t := by
  intro vs
  induction vs with
  | nil => exact fun _ => ⟨[], trivial, rfl, fun f hf => absurd hf List.not_mem_nil⟩
  | cons v vs ih =>
    intro hp
    obtain ⟨fs, g1, g2, g3⟩ := ih fun u hu => hp u (List.mem_cons_of_mem _ hu)
    obtain ⟨x, y, b, a, o, t, u, n, rfl, ho, hc, hd⟩ := hp v List.mem_cons_self
    refine ⟨.int x t :: fs, PySem.W.KatTups.cons ho hc hd rfl g1, by simp [g2], fun f hf => ?_⟩
    exact (List.mem_cons.mp hf).elim (fun e => ⟨x, t, e⟩) (g3 f)
theorem tri_sorted {l : Addr} {vs : List Value} {k : Value → Int × Int} {f : Value → Bool} {Q : Value → Shared → Prop} (hl : s.heap.IsList l vs.toArray) (hz : vs.length ≤ sizeLine) (hp : ∀ v ∈ vs, IsTri s.heap v (k v).1 (k v).2 (f v)) (un : ∀ v ∈ vs, ∀ u ∈ vs, k v = k u → f v = f u)
    (fin : ∀ (g : Heap) (d : Addr) (out : List Value), Srtd (fun v u => lexB (k v) (k u)) out → Stb (fun v u => lexB (k v) (k u)) out vs → (∀ b o, s.heap.get? b = some o → g.get? b = some o) → s.heap.objs.size ≤ d → (∃ n, g.get? d = some (seqObj "list" out.toArray n)) → Q (.ref d) { s with heap := g }) :
    wpAny (model prog w) A (call (.builtin "sorted") [.ref l]) Q E s := by
  refine sorted_ord (swo_lex k) hl hz (fun h2 g a ga kk h' keep => ?_) fun out so st => ?_
  · have T : ∀ v ∈ vs, IsTri h' v (k v).1 (k v).2 (f v) := fun v mv => (hp v mv).stays fun b o e c => keep b o (kk b o e).1 (kk b o e).2
    obtain ⟨fs, g1, g2, g3⟩ := heads fun v mv => ⟨_, _, _, T v mv⟩
    refine ⟨tuples' true, fun Q E hq => PySem.W.kat_kind (T := .type "int") g1 (by omega) (fun f' mf => ?_) (by rfl) ?_, tri_cmp T un⟩
    · obtain ⟨x, t, rfl⟩ := g3 f' mf
      exact PySem.W.Looks.now
    · rw [show (Value.type "int" != Value.type "tuple") = true by first | decide +kernel | rfl]
      exact hq
  · exact fin _ _ out so st (fun b o e => sortedAll_old e) (Nat.le_succ _) (sortedAll_at s.heap vs out.toArray)
end
def rTri (K : PySem.W.Frag) : List V → Hp → VK → Prop := fun vs H Q => ∃ (a : Addr) (xs : List V) (k : V → Int × Int) (f : V → Bool), vs = [V.ref a] ∧ SqL K H a xs ∧ (∀ x ∈ xs, ∃ t, x = V.ref t ∧ H t = some (.tup [.int (k x).1, .int (k x).2, .bl (f x)])) ∧ (∀ x ∈ xs, ∀ y ∈ xs, k x = k y → f x = f y) ∧
  ∀ ys p, Srtd (ltP k) ys → Stb (ltP k) ys xs → H p = none → Q (.ref p) (upd H p (.lst ys))
section
variable {X : Cx}
theorem cr_tri : CallR X (.builtin "sorted") (rTri X.K) := by
  rintro ps s σ H vs us Q I r ⟨a, xs, k, f, rfl, sq, tup, un, q⟩
  obtain ⟨its, rv, hl, hz⟩ := I.list sq
  obtain ⟨_, rfl, ru⟩ := vals1 r
  cases ru
  obtain ⟨e1, e2⟩ := refs_back rv fun x mx => let ⟨t, e, _⟩ := tup x mx; ⟨t, e⟩
  have bk : ∀ v ∈ its, backV v ∈ xs := fun v mv => by rw [e1]; exact List.mem_map.mpr ⟨v, mv, rfl⟩
  refine tri_sorted (k := fun u => k (backV u)) (f := fun u => f (backV u)) hl.isList (by rw [← rv.length]; exact hz) (fun v mv => ?_) (fun v mv u mu => un _ (bk v mv) _ (bk u mu)) fun g d out so st keep hd hn => ?_
  · obtain ⟨t, rfl⟩ := e2 v mv
    obtain ⟨t', e, ht⟩ := tup _ (bk _ mv)
    cases e
    obtain ⟨_, its2, r2, o, ho, hc, n, hd⟩ := I.hok _ _ ht
    cases r2 with
    | cons ri rt =>
      cases rt with
      | cons rj rt =>
        cases rt with
        | cons rb rn =>
          cases rn
          obtain ⟨t1, rfl⟩ := ri
          obtain ⟨t2, rfl⟩ := rj
          cases rb
          exact ⟨t, o, t1, t2, n, rfl, ho, hc, hd⟩
  · obtain ⟨n, hn⟩ := hn
    have stb : Stb (ltP k) (out.map backV) xs := by
      rw [e1]
      exact SrtO.Stb.map (ltP_swo k) backV st
    refine ⟨.ref d, upd H d (.lst (out.map backV)), I.laid (t' := s.toks) keep hd ⟨by rw [stb.len]; exact hz, out, n, vals_back (fun u mu => e2 u (st.perm.mem_iff.mp mu)), hn⟩, rfl, q _ d (SrtO.srtd_map so) stb (I.hok.fresh hd)⟩
end
/-- two of them -/
theorem two_sorted {k : V → Int × Int} {u v : V} {ys : List V} (so : Srtd (ltP k) ys) (st : Stb (ltP k) ys [u, v]) : (ys = [u, v] ∧ lexB (k v) (k u) = false) ∨ (ys = [v, u] ∧ lexB (k u) (k v) = false) := by
  have pm := st.perm
  match ys, pm.length_eq with
  | [x, y], _ =>
    have h1 : lexB (k y) (k x) = false := by
      have := (List.pairwise_cons.mp so).1 y (List.mem_singleton_self y)
      exact this
    have m1 : x = u ∨ x = v := by
      have := pm.mem_iff.mp (List.mem_cons_self (a := x) (l := [y]))
      simpa using this
    rcases m1 with rfl | rfl
    · have p2 : [y].Perm [v] := (List.perm_cons x).mp pm
      have := List.perm_singleton.mp p2
      cases this
      exact .inl ⟨rfl, h1⟩
    · have p2 : [y].Perm [u] := (List.perm_cons x).mp (pm.trans (List.Perm.swap x u []))
      have := List.perm_singleton.mp p2
      cases this
      exact .inr ⟨rfl, h1⟩
end Tri
set_option Elab.async false
set_option linter.all false
set_option maxRecDepth 100000
set_option maxHeartbeats 1000000
set_option exponentiation.threshold 20000
namespace K12
open PySem PySem.Spec PyProof.Rows L2 Fen
abbrev sBt : Stmt := topS 44
abbrev nBt : List Str := ["bottom", "size", "one", "two", "low", "high", "part", "across", "up", "value", "rest", "first", "last", "many", "start"]
theorem scBt : FnScope nBt ["bottom", "size", "one", "two"] (defScope sBt) := ⟨rfl, rfl, rfl, by decide +kernel, rfl, by decide +kernel, by decide +kernel⟩
/-- the run of a line: what the two branches do -/
def TBt (K : PySem.W.Frag) : TS := fun D σ H => ∃ (b n g ac up val rs : Int) (a1 a2 L Hh : Addr) (p q : Hull.P) (f1 f2 : Bool),
  σ = [some (.int b), some (.int n), some (.ref a1), some (.ref a2), some (.ref L), some (.ref Hh), some (.int g), some (.int ac), some (.int up), some (.int val), some (.int rs), none, none, none, none] ∧
  SqT K H L [.int p.2, .int p.1, .bl f1] ∧ SqT K H Hh [.int q.2, .int q.1, .bl f2] ∧ 1 ≤ b ∧ b ≤ 30 ∧ 1 ≤ n ∧ n.natAbs < 2 ^ 100 ∧ Cor p ∧ Cor q ∧ 0 < g ∧ g * ac = q.1 - p.1 ∧ g * up = q.2 - p.2 ∧ Int.gcd ac up = 1 ∧ ac.natAbs < 2 ^ 102 ∧ up.natAbs < 2 ^ 102 ∧ 0 ≤ up ∧ (up = 0 → p.1 < q.1) ∧
  n * (ac * p.2 - up * p.1) % b = 0 ∧ val = n * (ac * p.2 - up * p.1) / b ∧
  ∀ H' st x y m z11 z12, Same H H' → SqT K H' st [.int x, .int y] → m.natAbs < 2 ^ 4000 → y.natAbs < 2 ^ 3000 → (up = 0 → ac = 1) → (∀ row px, OnRun x y ac up m row px ↔ Geo.OnS n p q f1 f2 (b * px) (b * row)) →
    D.nx [some (.int b), some (.int n), some (.ref a1), some (.ref a2), some (.ref L), some (.ref Hh), some (.int g), some (.int ac), some (.int up), some (.int val), some (.int rs), some (.int z11), some (.int z12), some (.int m), some (.ref st)] H'
section
variable {P : Program} {w : World} {K : PySem.W.Frag} {mg : Str → Option Value} {base : Heap}
def spBt (K : PySem.W.Frag) (R S : Addr) : Sp := fun vs H Q _ => ∃ (b n : Int) (a1 a2 : Addr) (p q : Hull.P) (f1 f2 : Bool), vs = [.int b, .int n, .ref a1, .ref a2] ∧ 1 ≤ b ∧ b ≤ 30 ∧ 1 ≤ n ∧ n.natAbs < 2 ^ 100 ∧ Cor p ∧ Cor q ∧ p ≠ q ∧
  H a1 = some (.tup [.int p.2, .int p.1, .bl f1]) ∧ H a2 = some (.tup [.int q.2, .int q.1, .bl f2]) ∧ PL K R S (fun row px => Geo.OnS n p q f1 f2 (b * px) (b * row)) 1 H Q
theorem ok_bt {f R S fL fG fI fN : Addr} {fd fdL fdG fdI fdN : FuncData} {k : Nat} (F : Fun K "between_runs" "between_runs" sBt f fd) (MR : Mk K R fI) (mR : mg "Run" = some (.ref R)) (OI : FnOk P w K mg base CX0 (k + 1) fI fdI ["self", "start", "step", "many"] (spRunI R)) (bI : Binds K fdI ["self", "start", "step", "many"] [])
    (mso : mg "sorted" = none) (mdm : mg "divmod" = none) (mg3 : mg "gcd" = some (.builtin "math.gcd"))
    (CL : Cal P w K mg base (k + 1) "least_from" fL fdL ["top", "bottom", "beyond"] spLea) (CG : Cal P w K mg base (k + 1) "greatest_to" fG fdG ["top", "bottom", "beyond"] spGrt) (CN : Cal P w K mg base (k + 1) "inverse_of" fN fdN ["number", "modulus"] spInv) :
    FnOk P w K mg base CX0 (k + 1 + 1 + 1) f fd ["bottom", "size", "one", "two"] (spBt K R S) := by
  refine F.ok scBt (fun vs H Q E h => ?_) (fun cdv A outer s H vs Q E hr h => ?_)
  · obtain ⟨b, n, a1, a2, p, q, f1, f2, rfl, _⟩ := h
    rfl
  · obtain ⟨b, n, a1, a2, p, q, f1, f2, rfl, b1, b2, n1, nb, cp, cq, ne, h1, h2, qq⟩ := h
    have hl := hr.mono (show k + 1 ≤ k + 1 + 1 by omega)
    refine ⟨_, pss_cons (ps_asg (pe_callB Tri.cr_tri (by rfl) mso (by decide +kernel) (pa_cons (pe_lst (pa_cons (pv 2) (pa_cons (pv 3) pa_nil))) pa_nil)) (pg_lst rfl (pgs_cons (pg_name (i := 4) scBt.nd rfl (.inl rfl)) (pgs_cons (pg_name (i := 5) scBt.nd rfl (.inl rfl)) pgs_nil))))
      (pss_cons (ps_set (i := 6) scBt.nd rfl (.inl rfl) (pe_callBfun cr_gcd (by rfl) mg3 (pa_cons (pe_op op_sub (pe_ix ix_tup (pv 5) pe_int (fun _ _ => rfl)) (pe_ix ix_tup (pv 4) pe_int (fun _ _ => rfl))) (pa_cons (pe_op op_sub (pe_ix ix_tup (pv 5) pe_int (fun _ _ => rfl)) (pe_ix ix_tup (pv 4) pe_int (fun _ _ => rfl))) pa_nil))))
      (pss_cons (ps_par (i := 7) (j := 8) rfl scBt.nd rfl rfl (by decide) rfl rfl (pa_cons (pe_op op_fdivW (pe_op op_sub (pe_ix ix_tup (pv 5) pe_int (fun _ _ => rfl)) (pe_ix ix_tup (pv 4) pe_int (fun _ _ => rfl))) (pv 6)) (pa_cons (pe_op op_fdivW (pe_op op_sub (pe_ix ix_tup (pv 5) pe_int (fun _ _ => rfl)) (pe_ix ix_tup (pv 4) pe_int (fun _ _ => rfl))) (pv 6)) pa_nil)) (by rfl))
      (pss_cons (ps_asg (pe_callB call_divmodW (by rfl) mdm (by decide +kernel) (pa_cons (pe_op op_mulW (pv 1) (pe_op op_sub (pe_op op_mulW (pv 7) (pe_ix ix_tup (pv 4) pe_int (fun _ _ => rfl))) (pe_op op_mulW (pv 8) (pe_ix ix_tup (pv 4) pe_int (fun _ _ => rfl))))) (pa_cons (pv 0) pa_nil))) (pg_tup rfl (pgs_cons (pg_name (i := 9) scBt.nd rfl (.inl rfl)) (pgs_cons (pg_name (i := 10) scBt.nd rfl (.inl rfl)) pgs_nil))))
      (pss_cons (ps_if (pt_cmpR op_ne (pv 10) pe_int (nomark _)) (pss_one (ps_ret (pe_lst pa_nil))) pss_nil)
      (pss_cons (PS.of (TBt K) (ps_if (pt_cmpR op_eq (pv 8) pe_int (nomark _))
          (pss_cons (ps_par (i := 11) (j := 12) rfl scBt.nd rfl rfl (by decide) rfl rfl (pa_cons (pe_cal CL hl (pa_cons (pe_op op_mulW (pv 1) (pe_ix ix_tup (pv 4) pe_int (fun _ _ => rfl))) (pa_cons (pv 0) (pa_cons (pe_ix ix_tup (pv 4) pe_int (fun _ _ => rfl)) pa_nil)))) (pa_cons (pe_cal CG hl (pa_cons (pe_op op_mulW (pv 1) (pe_ix ix_tup (pv 5) pe_int (fun _ _ => rfl))) (pa_cons (pv 0) (pa_cons (pe_ix ix_tup (pv 5) pe_int (fun _ _ => rfl)) pa_nil)))) pa_nil)) (by rfl))
          (pss_one (ps_par (i := 13) (j := 14) rfl scBt.nd rfl rfl (by decide) rfl rfl (pa_cons (pe_op op_add (pe_op op_sub (pv 12) (pv 11)) pe_int) (pa_cons (pe_tup (pa_cons (pv 11) (pa_cons (pv 9) pa_nil))) pa_nil)) (by rfl))))
          (pss_cons (ps_par (i := 11) (j := 12) rfl scBt.nd rfl rfl (by decide) rfl rfl (pa_cons (pe_cal CL hl (pa_cons (pe_op op_mulW (pv 1) (pe_ix ix_tup (pv 4) pe_int (fun _ _ => rfl))) (pa_cons (pv 0) (pa_cons (pe_ix ix_tup (pv 4) pe_int (fun _ _ => rfl)) pa_nil)))) (pa_cons (pe_cal CG hl (pa_cons (pe_op op_mulW (pv 1) (pe_ix ix_tup (pv 5) pe_int (fun _ _ => rfl))) (pa_cons (pv 0) (pa_cons (pe_ix ix_tup (pv 5) pe_int (fun _ _ => rfl)) pa_nil)))) pa_nil)) (by rfl))
          (pss_cons (ps_aug (i := 11) scBt.nd rfl (.inl rfl) (pe_op op_mod (pe_op op_sub (pe_op op_mulW (pv 9) (pe_cal CN hl (pa_cons (pv 7) (pa_cons (pv 8) pa_nil)))) (pv 11)) (pv 8)) ip_add)
          (pss_one (ps_par (i := 13) (j := 14) rfl scBt.nd rfl rfl (by decide) rfl rfl (pa_cons (pe_op op_add (pe_op op_fdivW (pe_op op_sub (pv 12) (pv 11)) (pv 8)) pe_int) (pa_cons (pe_tup (pa_cons (pe_op op_fdivW (pe_op op_sub (pe_op op_mulW (pv 7) (pv 11)) (pv 9)) (pv 8)) (pa_cons (pv 11) pa_nil))) pa_nil)) (by rfl)))))) ?s0)
      (pss_cons (ps_if (pt_cmpR op_lt (pv 13) pe_int (nomark _)) (pss_one (ps_ret (pe_lst pa_nil))) pss_nil)
      (pss_one (ps_ret (pe_lst (pa_cons (pe_make MR OI hr (by rfl) mR bI .nil pass0 (pa_cons (pv 14) (pa_cons (pe_tup (pa_cons (pv 7) (pa_cons (pv 8) pa_nil))) (pa_cons (pv 13) pa_nil)))) pa_nil)))))))))), ?_⟩
    case s0 =>
      rintro D σ H ⟨b, n, g, ac, up, val, rs, a1, a2, L, Hh, p, q, f1, f2, rfl, hL, hH, b1, b2, n1, nb, cp, cq, g0, eA, eU, cop, acb, upb, up0, fl, hr0, ev, go⟩
      have bp : 0 < b := by omega
      have np : 0 < n := by omega
      have bb : b.natAbs < 2 ^ 4000 := Nat.lt_of_le_of_lt (show b.natAbs ≤ 30 by omega) (by decide)
      obtain ⟨sx, sy⟩ := cor_small cp
      obtain ⟨tx, ty⟩ := cor_small cq
      refine ⟨_, rfl, rfl, _, rfl, ite2 (fun e => ?_) (fun e => ?_)⟩
      · have u0 : up = 0 := V.int.inj (of_decide_eq_true e)
        subst u0
        have ac1 : ac = 1 := by
          rw [Int.gcd_zero_right] at cop
          have : 0 < g * ac := by rw [eA]; have := fl rfl; omega
          have := Int.pos_of_mul_pos_right this g0
          omega
        subst ac1
        have ey : q.2 = p.2 := by rw [Int.mul_zero] at eU; omega
        have ex : (1 : Int) * p.2 - 0 * p.1 = p.2 := by omega
        rw [ex] at hr0 ev
        have iff := fun row px : Int => Geo.onS_flat (b := b) (n := n) (p := p) (q := q) (f1 := f1) (f2 := f2) (px := px) (row := row) bp np (fl rfl) ey hr0
        rw [← ev] at iff
        refine ⟨_, rfl, .ref L, rfl, L, _, 1, .int p.1, rfl, rfl, hL, atI_nat (j := 1) rfl, _, _, rfl, rfl, wide_mul nb sx (by decide) (by decide) (by decide), .int b, rfl, .ref L, rfl, L, _, 2, .bl f1, rfl, rfl, hL, atI_nat (j := 2) rfl, _, b, f1, rfl, bp, bb, ?_⟩
        refine ⟨_, rfl, .ref Hh, rfl, Hh, _, 1, .int q.1, rfl, rfl, hH, atI_nat (j := 1) rfl, _, _, rfl, rfl, wide_mul nb tx (by decide) (by decide) (by decide), .int b, rfl, .ref Hh, rfl, Hh, _, 2, .bl f2, rfl, rfl, hH, atI_nat (j := 2) rfl, _, b, f2, rfl, bp, bb, _, _, rfl, ?_⟩
        have sm1 : (Lat.leastFrom (n * p.1) b f1).natAbs < 2 ^ 201 := least_small (wide_lt nb sx)
        have sm2 : (Lat.greatestTo (n * q.1) b f2).natAbs < 2 ^ 201 := by
          unfold Lat.greatestTo
          rw [Int.natAbs_neg]
          exact least_small (by rw [Int.natAbs_neg]; exact wide_lt nb tx)
        have vsm : val.natAbs < 2 ^ 3000 := by
          rw [ev]
          exact Nat.lt_of_le_of_lt (Int.natAbs_ediv_le_natAbs _ _) (Nat.lt_trans (wide_lt nb sy) (by decide))
        generalize Lat.leastFrom (n * p.1) b f1 = first at iff sm1 ⊢
        generalize Lat.greatestTo (n * q.1) b f2 = last at iff sm2 ⊢
        refine ⟨_, rfl, _, rfl, _, _, rfl, rfl, _, _, rfl, rfl, _, rfl, _, rfl, by show 2 ≤ sizeLine; decide, fun st nst => ⟨_, _, rfl, ?_⟩⟩
        refine go _ st first val (last - first + 1) first last (same_new nst) (SqT.of upd_same) ?_ vsm (fun _ => rfl) fun row px => ?_
        · have e3 : (2 : Nat) ^ 201 * 2 + 1 < 2 ^ 4000 := by decide +kernel
          generalize (2 : Nat) ^ 201 = X at *
          generalize (2 : Nat) ^ 4000 = Y at *
          omega
        · rw [iff]
          constructor
          · rintro ⟨k, k0, k1, h1, h2⟩
            omega
          · rintro ⟨⟨h1, h2⟩, h3⟩
            exact ⟨px - first, by omega, by omega, by omega, by omega⟩
      · have u0 : 0 < up := by
          have : up ≠ 0 := fun z => e (decide_eq_true (congrArg V.int z))
          omega
        have iff := fun row px : Int => Geo.onS_slant (b := b) (n := n) (g := g) (ac := ac) (up := up) (p := p) (q := q) (f1 := f1) (f2 := f2) (px := px) (row := row) bp np g0 eA eU u0 hr0
        rw [← ev] at iff
        refine ⟨_, rfl, .ref L, rfl, L, _, 0, .int p.2, rfl, rfl, hL, atI_nat (j := 0) rfl, _, _, rfl, rfl, wide_mul nb sy (by decide) (by decide) (by decide), .int b, rfl, .ref L, rfl, L, _, 2, .bl f1, rfl, rfl, hL, atI_nat (j := 2) rfl, _, b, f1, rfl, bp, bb, ?_⟩
        refine ⟨_, rfl, .ref Hh, rfl, Hh, _, 0, .int q.2, rfl, rfl, hH, atI_nat (j := 0) rfl, _, _, rfl, rfl, wide_mul nb ty (by decide) (by decide) (by decide), .int b, rfl, .ref Hh, rfl, Hh, _, 2, .bl f2, rfl, rfl, hH, atI_nat (j := 2) rfl, _, b, f2, rfl, bp, bb, _, _, rfl, ?_⟩
        have sm1 : (Lat.leastFrom (n * p.2) b f1).natAbs < 2 ^ 201 := least_small (wide_lt nb sy)
        have sm2 : (Lat.greatestTo (n * q.2) b f2).natAbs < 2 ^ 201 := by
          unfold Lat.greatestTo
          rw [Int.natAbs_neg]
          exact least_small (by rw [Int.natAbs_neg]; exact wide_lt nb ty)
        have w1 : (ac * p.2).natAbs < 2 ^ 204 := Nat.lt_trans (wide_lt acb sy) (by decide)
        have w2 : (up * p.1).natAbs < 2 ^ 204 := Nat.lt_trans (wide_lt upb sx) (by decide)
        have vsm : val.natAbs < 2 ^ 305 := by
          rw [ev]
          exact Nat.lt_of_le_of_lt (Int.natAbs_ediv_le_natAbs _ _) (wide_lt nb (sub_small w1 w2))
        generalize Lat.leastFrom (n * p.2) b f1 = lo at iff sm1 ⊢
        generalize Lat.greatestTo (n * q.2) b f2 = last at iff sm2 ⊢
        refine ⟨_, rfl, _, rfl, _, rfl, _, rfl, ac, up, rfl, u0, Nat.lt_trans upb (by decide), cop, fun H2 r dv r0 r1 s2 => ?_⟩
        have rb : r.natAbs < 2 ^ 102 := Nat.lt_of_le_of_lt (by omega) upb
        refine ⟨_, _, rfl, rfl, wide_mul vsm rb (by decide) (by decide) (by decide), _, rfl, _, _, rfl, rfl, _, rfl, _, _, rfl, rfl, u0, _, _, rfl, rfl, ?_⟩
        have m0 := Int.emod_nonneg (val * r - lo) (show up ≠ 0 by omega)
        have m1 := Int.emod_lt_of_pos (val * r - lo) u0
        have su := fun row px : Int => Lat.stretch_up (ac := ac) (up := up) (v := val) (inv := r) (lo := lo) (last := last) (row := row) (px := px) u0 dv
        have fsm : (lo + (val * r - lo) % up).natAbs < 2 ^ 202 := by
          have e3 : (2 : Nat) ^ 201 + 2 ^ 102 < 2 ^ 202 := by decide +kernel
          generalize (2 : Nat) ^ 201 = X at *
          generalize (2 : Nat) ^ 202 = Y at *
          generalize (2 : Nat) ^ 102 = Z at *
          omega
        obtain ⟨first, ef⟩ : ∃ x, lo + (val * r - lo) % up = x := ⟨_, rfl⟩
        rw [ef] at fsm
        replace su := fun row px => su row px
        simp only [ef] at su
        have dsm : (last - first).natAbs < 2 ^ 203 := sub_small (Nat.lt_trans sm2 (by decide)) fsm
        have wd : ∀ x : Int, CDivW x up := fun x => wide_div u0 (Nat.lt_trans upb (show 2 ^ 102 < 2 ^ 4000 by decide)) (by decide) (by decide)
        refine ⟨_, rfl, _, rfl, _, _, rfl, rfl, _, rfl, _, _, rfl, rfl, wd _, _, _, rfl, rfl, ?_⟩
        refine ⟨_, rfl, _, rfl, _, _, rfl, rfl, (show CMulW ac (lo + (val * r - lo) % up) by rw [ef]; exact wide_mul acb fsm (by decide) (by decide) (by decide)), _, rfl, _, _, rfl, rfl, _, rfl, _, _, rfl, rfl, wd _, _, rfl, by show 2 ≤ sizeLine; decide, fun st nst => ⟨_, _, rfl, ?_⟩⟩
        have go' : ∀ H' st m z11 z12 x y, y = first → x = (ac * first - val) / up → m = (last - first) / up + 1 → Same H H' → SqT K H' st [.int x, .int y] → D.nx [some (.int b), some (.int n), some (.ref a1), some (.ref a2), some (.ref L), some (.ref Hh), some (.int g), some (.int ac), some (.int up), some (.int val), some (.int rs), some (.int z11), some (.int z12), some (.int m), some (.ref st)] H' := by
          rintro H' st m z11 z12 x y rfl rfl rfl s' hst
          refine go _ st _ _ _ z11 z12 s' hst ?_ (Nat.lt_trans fsm (by decide)) (fun z => by omega) fun row px => ?_
          · have e1 := Int.natAbs_ediv_le_natAbs (last - y) up
            have e3 : (2 : Nat) ^ 203 + 1 < 2 ^ 4000 := by decide +kernel
            generalize (2 : Nat) ^ 203 = X at *
            generalize (2 : Nat) ^ 4000 = Y at *
            omega
          · rw [iff, ← su]
            rfl
        exact go' _ st _ _ _ _ _ ef (by rw [← ef]) (by rw [← ef]) (s2.trans (same_new nst)) (SqT.of upd_same)
    have bp : 0 < b := by omega
    have np : 0 < n := by omega
    have bb : b.natAbs < 2 ^ 100 := Nat.lt_of_le_of_lt (show b.natAbs ≤ 30 by omega) (by decide)
    refine ⟨_, rfl, _, rfl, by show 2 ≤ sizeLine; decide, fun l0 nl0 => ?_⟩
    have s1 := same_new (o := .lst [V.ref a1, V.ref a2]) nl0
    have gl : (upd H l0 (.lst [V.ref a1, V.ref a2])) l0 = some (.lst [V.ref a1, V.ref a2]) := upd_same
    generalize upd H l0 (.lst [V.ref a1, V.ref a2]) = H1 at s1 gl ⊢
    have h1' := s1 _ _ h1
    have h2' := s1 _ _ h2
    have ne' : ¬ (p.1 = q.1 ∧ p.2 = q.2) := fun z => ne (Prod.ext z.1 z.2)
    have na : a1 ≠ a2 := fun z => by
      rw [z, h2] at h1
      simp only [Option.some.injEq, HO.tup.injEq, List.cons.injEq, V.int.injEq] at h1
      exact ne' ⟨h1.2.1.symm, h1.1.symm⟩
    obtain ⟨kf, k1, k2⟩ : ∃ kf : V → Int × Int, kf (.ref a1) = (p.2, p.1) ∧ kf (.ref a2) = (q.2, q.1) := ⟨fun v => if v = .ref a1 then (p.2, p.1) else (q.2, q.1), if_pos rfl, if_neg fun z => na (V.ref.inj z).symm⟩
    obtain ⟨ff, g1, g2⟩ : ∃ ff : V → Bool, ff (.ref a1) = f1 ∧ ff (.ref a2) = f2 := ⟨fun v => if v = .ref a1 then f1 else f2, if_pos rfl, if_neg fun z => na (V.ref.inj z).symm⟩
    have two : ∀ x ∈ [V.ref a1, V.ref a2], x = .ref a1 ∨ x = .ref a2 := fun x hx => by simpa using hx
    refine ⟨l0, [V.ref a1, V.ref a2], kf, ff, rfl, SqL.of gl, fun x hx => ?_, fun x hx y hy e => ?_, fun ys M so st nM => ?_⟩
    · rcases two x hx with rfl | rfl
      · exact ⟨a1, rfl, by rw [k1, g1]; exact h1'⟩
      · exact ⟨a2, rfl, by rw [k2, g2]; exact h2'⟩
    · rcases two x hx with rfl | rfl
      · rcases two y hy with rfl | rfl
        · rfl
        · rw [k1, k2, Prod.mk.injEq] at e
          exact absurd ⟨e.2, e.1⟩ ne'
      · rcases two y hy with rfl | rfl
        · rw [k1, k2, Prod.mk.injEq] at e
          exact absurd ⟨e.2.symm, e.1.symm⟩ ne'
        · rfl
    obtain ⟨aL, aH, p', q', e1, e2, rfl, gL, gH, cp', cq', ord, same⟩ : ∃ aL aH p' q' e1 e2, ys = [V.ref aL, V.ref aH] ∧ H1 aL = some (.tup [.int p'.2, .int p'.1, .bl e1]) ∧ H1 aH = some (.tup [.int q'.2, .int q'.1, .bl e2]) ∧ Cor p' ∧ Cor q' ∧ (p'.2 < q'.2 ∨ (p'.2 = q'.2 ∧ p'.1 < q'.1)) ∧ ∀ row px, Geo.OnS n p q f1 f2 (b * px) (b * row) ↔ Geo.OnS n p' q' e1 e2 (b * px) (b * row) := by
      rcases Tri.two_sorted so st with ⟨e, l⟩ | ⟨e, l⟩
      · rw [k1, k2] at l
        have l' := SrtO.lexB_no.mp l
        exact ⟨a1, a2, p, q, f1, f2, e, h1', h2', cp, cq, by omega, fun row px => Iff.rfl⟩
      · rw [k1, k2] at l
        have l' := SrtO.lexB_no.mp l
        exact ⟨a2, a1, q, p, f2, f1, e, h2', h1', cq, cp, by omega, fun row px => Geo.onS_comm⟩
    have s2 := same_new (o := .lst [V.ref aL, V.ref aH]) nM
    have gM : (upd H1 M (.lst [V.ref aL, V.ref aH])) M = some (.lst [V.ref aL, V.ref aH]) := upd_same
    generalize upd H1 M (.lst [V.ref aL, V.ref aH]) = H2 at s2 gM ⊢
    have tL : SqT K H2 aL [.int p'.2, .int p'.1, .bl e1] := SqT.of (s2 _ _ gL)
    have tH : SqT K H2 aH [.int q'.2, .int q'.1, .bl e2] := SqT.of (s2 _ _ gH)
    have sH2 := s1.trans s2
    have ne2 : p' ≠ q' := fun z => by rw [z] at ord; omega
    obtain ⟨sx, sy⟩ := cor_small cp'
    obtain ⟨tx, ty⟩ := cor_small cq'
    -- the greatest common divisor
    obtain ⟨g, eg⟩ : ∃ g : Int, g = ((Nat.gcd (q'.1 - p'.1).natAbs (q'.2 - p'.2).natAbs : Nat) : Int) := ⟨_, rfl⟩
    have egP : g = Geo.gP p' q' := eg
    have g0 : 0 < g := by rw [egP]; exact Geo.gP_pos ne2
    have gb : g.natAbs < 2 ^ 4000 := by rw [egP]; exact Nat.lt_trans (Geo.gP_small cp' cq') (by decide)
    have eA : g * ((q'.1 - p'.1) / g) = q'.1 - p'.1 := Int.mul_ediv_cancel' (by rw [eg]; exact Int.ofNat_dvd_left.mpr (Nat.gcd_dvd_left _ _))
    have eU : g * ((q'.2 - p'.2) / g) = q'.2 - p'.2 := Int.mul_ediv_cancel' (by rw [eg]; exact Int.ofNat_dvd_left.mpr (Nat.gcd_dvd_right _ _))
    have cop : Int.gcd ((q'.1 - p'.1) / g) ((q'.2 - p'.2) / g) = 1 := by
      have gp : 0 < Nat.gcd (q'.1 - p'.1).natAbs (q'.2 - p'.2).natAbs := by
        have := g0
        rw [eg] at this
        omega
      rw [eg]
      exact Int.gcd_ediv_gcd_ediv_gcd (i := q'.1 - p'.1) (j := q'.2 - p'.2) gp
    have acb : ((q'.1 - p'.1) / g).natAbs < 2 ^ 102 := Nat.lt_of_le_of_lt (Int.natAbs_ediv_le_natAbs _ _) (Nat.lt_trans (sub_small tx sx) (by decide))
    have upb : ((q'.2 - p'.2) / g).natAbs < 2 ^ 102 := Nat.lt_of_le_of_lt (Int.natAbs_ediv_le_natAbs _ _) (Nat.lt_trans (sub_small ty sy) (by decide))
    have up0 : 0 ≤ (q'.2 - p'.2) / g := Int.ediv_nonneg (by omega) (by omega)
    have flat : (q'.2 - p'.2) / g = 0 → p'.1 < q'.1 := fun z => by
      rw [z, Int.mul_zero] at eU
      omega
    have w1 : ((q'.1 - p'.1) / g * p'.2).natAbs < 2 ^ 204 := Nat.lt_trans (wide_lt acb sy) (by decide)
    have w2 : ((q'.2 - p'.2) / g * p'.1).natAbs < 2 ^ 204 := Nat.lt_trans (wide_lt upb sx) (by decide)
    have wd : ∀ x : Int, CDivW x g := fun x => wide_div g0 gb (by decide) (by decide)
    refine ⟨M, _, rfl, SqL.of gM, rfl, .ref aL, [.ref aH], rfl, .ref aH, [], rfl, rfl, ?_⟩
    refine ⟨.ref aH, rfl, aH, _, 1, .int q'.1, rfl, rfl, tH, atI_nat (j := 1) rfl, .ref aL, rfl, aL, _, 1, .int p'.1, rfl, rfl, tL, atI_nat (j := 1) rfl, _, _, rfl, rfl, .ref aH, rfl, aH, _, 0, .int q'.2, rfl, rfl, tH, atI_nat (j := 0) rfl, .ref aL, rfl, aL, _, 0, .int p'.2, rfl, rfl, tL, atI_nat (j := 0) rfl, _, _, rfl, rfl, _, _, rfl, ?_⟩
    rw [← eg]
    refine ⟨.ref aH, rfl, aH, _, 1, .int q'.1, rfl, rfl, tH, atI_nat (j := 1) rfl, .ref aL, rfl, aL, _, 1, .int p'.1, rfl, rfl, tL, atI_nat (j := 1) rfl, _, _, rfl, rfl, .int g, rfl, _, _, rfl, rfl, wd _, ?_⟩
    refine ⟨.ref aH, rfl, aH, _, 0, .int q'.2, rfl, rfl, tH, atI_nat (j := 0) rfl, .ref aL, rfl, aL, _, 0, .int p'.2, rfl, rfl, tL, atI_nat (j := 0) rfl, _, _, rfl, rfl, .int g, rfl, _, _, rfl, rfl, wd _, _, _, rfl, ?_⟩
    refine ⟨.int n, rfl, .int ((q'.1 - p'.1) / g), rfl, .ref aL, rfl, aL, _, 0, .int p'.2, rfl, rfl, tL, atI_nat (j := 0) rfl, _, _, rfl, rfl, wide_mul acb sy (by decide) (by decide) (by decide), .int ((q'.2 - p'.2) / g), rfl, .ref aL, rfl, aL, _, 1, .int p'.1, rfl, rfl, tL, atI_nat (j := 1) rfl, _, _, rfl, rfl, wide_mul upb sx (by decide) (by decide) (by decide), _, _, rfl, rfl, _, _, rfl, rfl, wide_mul nb (sub_small w1 w2) (by decide) (by decide) (by decide), .int b, rfl, n * ((q'.1 - p'.1) / g * p'.2 - (q'.2 - p'.2) / g * p'.1), b, rfl, ⟨bp, PyProof.noPylong_of_log2 (wide_div (i := 0) bp bb (by decide) (by decide)).2⟩, fun z nz => ?_⟩
    refine ⟨z, _, rfl, SqT.of upd_same, rfl, .int (n * (((q'.1 - p'.1) / g) * p'.2 - ((q'.2 - p'.2) / g) * p'.1) / b), [.int (n * (((q'.1 - p'.1) / g) * p'.2 - ((q'.2 - p'.2) / g) * p'.1) % b)], rfl, .int (n * (((q'.1 - p'.1) / g) * p'.2 - ((q'.2 - p'.2) / g) * p'.1) % b), [], rfl, rfl, ?_⟩
    have s3 := same_new (o := .tup [.int (n * (((q'.1 - p'.1) / g) * p'.2 - ((q'.2 - p'.2) / g) * p'.1) / b), .int (n * (((q'.1 - p'.1) / g) * p'.2 - ((q'.2 - p'.2) / g) * p'.1) % b)]) nz
    generalize upd H2 z (.tup [.int (n * (((q'.1 - p'.1) / g) * p'.2 - ((q'.2 - p'.2) / g) * p'.1) / b), .int (n * (((q'.1 - p'.1) / g) * p'.2 - ((q'.2 - p'.2) / g) * p'.1) % b)]) = H3 at s3 ⊢
    have sH3 := sH2.trans s3
    have none' : (∀ row px, ¬ Geo.OnS n p q f1 f2 (b * px) (b * row)) → ∀ H' M, Same H H' → H' M = none → Q (.ref M) (upd H' M (.lst [])) := fun no H' M s' nM => by
      exact qq _ M [] (s'.trans (same_new nM)) (s'.free nM) upd_same (fun x hx => absurd hx List.not_mem_nil) (fun x hx => absurd hx List.not_mem_nil) sep_nil (by simp) fun row x => ⟨fun h => absurd h inPs_nil, fun h => absurd h (no row x)⟩
    refine ⟨_, rfl, rfl, _, rfl, ite2 (fun e => ?_) (fun e => ?_)⟩
    · have hr0 : n * (((q'.1 - p'.1) / g) * p'.2 - ((q'.2 - p'.2) / g) * p'.1) % b ≠ 0 := fun w => by
        have w2 : V.int (n * (((q'.1 - p'.1) / g) * p'.2 - ((q'.2 - p'.2) / g) * p'.1) % b) = V.int 0 := congrArg V.int w
        rw [show decide (V.int (n * (((q'.1 - p'.1) / g) * p'.2 - ((q'.2 - p'.2) / g) * p'.1) % b) = V.int 0) = true from decide_eq_true w2] at e
        cases e
      exact ⟨by show 0 ≤ sizeLine; decide, fun M' nM' => none' (fun row px z => Geo.onS_none bp np g0 eA eU hr0 ((same row px).mp z)) _ _ sH3 nM'⟩
    have hr0 : n * (((q'.1 - p'.1) / g) * p'.2 - ((q'.2 - p'.2) / g) * p'.1) % b = 0 := by
      refine Classical.byContradiction fun w => e ?_
      rw [decide_eq_false (fun y => w (V.int.inj y))]
      rfl
    refine ⟨b, n, g, ((q'.1 - p'.1) / g), ((q'.2 - p'.2) / g), _, _, a1, a2, aL, aH, p', q', e1, e2, rfl, s3.seqT tL, s3.seqT tH, b1, b2, n1, nb, cp', cq', g0, eA, eU, cop, acb, upb, up0, flat, hr0, rfl, fun H4 st x y m z11 z12 s4 tS msm ysm uac iff => ?_⟩
    have sH4 := sH3.trans s4
    refine ⟨_, rfl, _, _, rfl, rfl, _, rfl, ite2 (fun e => ?_) (fun e => ?_)⟩
    · have m1 : m < 1 := of_decide_eq_true e
      refine ⟨by show 0 ≤ sizeLine; decide, fun M' nM' => none' (fun row px z => ?_) _ _ sH4 nM'⟩
      obtain ⟨k, k0, k1, _⟩ := (iff row px).mpr ((same row px).mp z)
      omega
    · have m1 : 1 ≤ m := by
        have : ¬ m < 1 := fun w => e (decide_eq_true w)
        omega
      refine ⟨.ref st, rfl, _, rfl, _, rfl, by show 2 ≤ sizeLine; decide, fun t2 nt2 => ⟨_, rfl, fun o dx nx ndx ne => ?_⟩⟩
      have c2 := same_new (o := .tup [.int ((q'.1 - p'.1) / g), .int ((q'.2 - p'.2) / g)]) nt2
      have g2' : SqT K (upd H4 t2 (.tup [.int ((q'.1 - p'.1) / g), .int ((q'.2 - p'.2) / g)])) t2 [.int ((q'.1 - p'.1) / g), .int ((q'.2 - p'.2) / g)] := .inl (.inl upd_same)
      generalize upd H4 t2 (.tup [.int ((q'.1 - p'.1) / g), .int ((q'.2 - p'.2) / g)]) = H5 at c2 g2' nx ndx ⊢
      refine ⟨o, dx, st, t2, m, rfl, upd_same, rfl, ?_⟩
      have c3 := same_made (o1 := .own o) (o2 := .ins R dx []) (o3 := .ins R dx (rf st t2 m)) nx ndx
      have g3 : (upd (upd (upd H5 dx (.own o)) o (.ins R dx [])) o (.ins R dx (rf st t2 m))) o = some (.ins R dx (rf st t2 m)) := upd_same
      generalize upd (upd (upd H5 dx (.own o)) o (.ins R dx [])) o (.ins R dx (rf st t2 m)) = H6 at c3 g3 ⊢
      refine ⟨by show 1 ≤ sizeLine; decide, fun M' nM' => ?_⟩
      have c4 := same_new (o := .lst [V.ref o]) nM'
      have sAll := sH4.trans (c2.trans c3)
      refine qq _ M' [(o, .run x y ((q'.1 - p'.1) / g) ((q'.2 - p'.2) / g) m)] (sAll.trans c4) (sAll.free nM') upd_same (fun y' hy => ?_) (fun y' hy => ?_) sep_one (by simp) fun row px => ?_
      · rw [List.mem_singleton.mp hy]
        exact (RunAt.mk ⟨dx, st, t2, g3, (c2.trans c3).seqT tS, c3.seqT g2'⟩ : RunAt K R _ o x y ((q'.1 - p'.1) / g) ((q'.2 - p'.2) / g) m).same c4
      · rw [List.mem_singleton.mp hy]
        exact ⟨m1, msm, Nat.lt_trans acb (by decide), up0, Nat.lt_trans upb (by decide), ysm, uac⟩
      · rw [inPs_one]
        exact (iff row px).trans (same row px).symm
end
end K12
set_option Elab.async false
set_option linter.all false
set_option maxRecDepth 100000
set_option maxHeartbeats 1000000
set_option exponentiation.threshold 20000
namespace K12
open PySem PySem.Spec PyProof.Rows L2 Fen
abbrev sSp : Stmt := topS 45
abbrev sFp : Stmt := topS 46
abbrev nSp : List Str := ["fence", "size", "bottom", "corners", "sides", "one", "two", "index", "x", "y"]
theorem scSp : FnScope nSp ["fence", "size"] (defScope sSp) := ⟨rfl, rfl, rfl, by decide +kernel, rfl, by decide +kernel, by decide +kernel⟩
theorem scFp : FnScope ["fence", "size", "bottom", "corners", "_"] ["fence", "size"] (defScope sFp) := ⟨rfl, rfl, rfl, by decide +kernel, rfl, by decide +kernel, by decide +kernel⟩
theorem n_small {n : Int} (n1 : 1 ≤ n) (n2 : n ≤ 10 ^ 30) : n.natAbs < 2 ^ 100 := by
  have z : (10 : Int) ^ 30 = 1000000000000000000000000000000 := by decide
  have w : (2 : Nat) ^ 100 = 1267650600228229401496703205376 := by decide
  rw [z] at n2
  rw [w]
  omega
section
variable {P : Program} {w : World} {K : PySem.W.Frag} {mg : Str → Option Value} {base : Heap}
def spSp (K : PySem.W.Frag) (R S : Addr) : Sp := fun vs H Q _ => ∃ (t c o : Addr) (b n : Int) (ks : Pts) (os : List Int), vs = [.ref t, .int n] ∧ FAt K H t c o b ks os ∧ IsF b (ks.map (·.2)) os ∧ ks.length = 2 ∧ 1 ≤ n ∧ n ≤ 10 ^ 30 ∧
  PL K R S (fun row px => Geo.Bel b n (ks.map (·.2)) os px row) 1 H Q
theorem bel_two {b n : Int} {p q : Hull.P} {os : List Int} {px row : Int} (hn : 0 < n) (l : Hull.Lt p q) : Geo.Bel b n [p, q] os px row ↔ Geo.OnS n p q (os.contains 0) (os.contains 1) (b * px) (b * row) := by
  rw [Geo.onS_lt hn l]
  have c0 : os.contains 0 = true ↔ (0 : Int) ∈ os := List.contains_iff_mem
  have c1 : os.contains 1 = true ↔ (1 : Int) ∈ os := List.contains_iff_mem
  unfold Geo.Bel
  constructor
  · rintro (⟨_, h1, h2, h3, h4⟩ | ⟨h, _⟩)
    · refine ⟨h1, h2, h3, fun f z => h4 0 (by simp) (c0.mp f) (Prod.ext z.1 z.2), fun f z => h4 1 (by simp) (c1.mp f) (Prod.ext z.1 z.2)⟩
    · simp at h
  · rintro ⟨h1, h2, h3, h4, h5⟩
    refine .inl ⟨by simp, h1, h2, h3, fun i hi m z => ?_⟩
    have : i = 0 ∨ i = 1 := by simp at hi; omega
    rcases this with rfl | rfl
    · exact h4 (c0.mpr m) ⟨congrArg Prod.fst z, congrArg Prod.snd z⟩
    · exact h5 (c1.mpr m) ⟨congrArg Prod.fst z, congrArg Prod.snd z⟩
theorem bel_one {b n : Int} {p : Hull.P} {px row : Int} : Geo.Bel b n [p] [] px row ↔ b * px = n * p.1 ∧ b * row = n * p.2 := by
  unfold Geo.Bel
  constructor
  · rintro (⟨_, _, h2, h3, _⟩ | ⟨h, _⟩)
    · have a2 : ¬ (b * px < n * p.1 ∨ (b * px = n * p.1 ∧ b * row < n * p.2)) := h2
      have a3 : ¬ (n * p.1 < b * px ∨ (n * p.1 = b * px ∧ n * p.2 < b * row)) := h3
      omega
    · simp at h
  · rintro ⟨h1, h2⟩
    refine .inl ⟨by simp, ?_, ?_, ?_, fun i _ m => absurd m List.not_mem_nil⟩
    · show (n * p.1 - n * p.1) * (b * row - n * p.2) - (n * p.2 - n * p.2) * (b * px - n * p.1) = 0
      rw [Int.sub_self, Int.sub_self, Int.zero_mul, Int.zero_mul]
      rfl
    · show ¬ (b * px < n * p.1 ∨ (b * px = n * p.1 ∧ b * row < n * p.2))
      omega
    · show ¬ (n * p.1 < b * px ∨ (n * p.1 = b * px ∧ n * p.2 < b * row))
      omega
theorem ok_sp {f R S fB : Addr} {fd fdB : FuncData} {k : Nat} (F : Fun K "stretch_pieces" "stretch_pieces" sSp f fd) (T : Nms mg) (CB : Cal P w K mg base (k + 1) "between_runs" fB fdB ["bottom", "size", "one", "two"] (spBt K R S)) :
    FnOk P w K mg base CX0 (k + 1 + 1) f fd ["fence", "size"] (spSp K R S) := by
  refine F.ok scSp (fun vs H Q E h => ?_) (fun cdv A outer s H vs Q E hr h => ?_)
  · obtain ⟨t, c, o, b, n, ks, os, rfl, _⟩ := h
    rfl
  · obtain ⟨t, c, o, b, n, ks, os, rfl, fa, isf, l2, n1, n2, q⟩ := h
    refine ⟨_, pss_cons (ps_asg (pv 0) (pg_tup rfl (pgs_cons (pg_name (i := 2) scSp.nd rfl (.inl rfl)) (pgs_cons (pg_name (i := 3) scSp.nd rfl (.inl rfl)) (pgs_cons (pg_name (i := 4) scSp.nd rfl (.inr rfl)) pgs_nil)))))
      (pss_cons (ps_asg (pe_lc (own := [("index", 7), ("x", 8), ("y", 9)]) (g := gTup K 2 (gCons (gName 7) (gCons (gTup K 2 (gCons (gName 8) (gCons (gName 9) gNil))) gNil))) (tt := tYes) rfl scSp.nd (pi_enum (by rfl) T.menum (pa_cons (pv 3) pa_nil)) (blkOk_by (N := nSp) (sc := defScope sSp) (by decide +kernel))
          (fun _ _ _ _ _ => pg_tup rfl (pgs_cons (pg_name (i := 7) scSp.nd rfl (Or.inl rfl)) (pgs_cons (pg_tup rfl (pgs_cons (pg_name (i := 8) scSp.nd rfl (Or.inl rfl)) (pgs_cons (pg_name (i := 9) scSp.nd rfl (Or.inl rfl)) pgs_nil))) pgs_nil))) (fun _ _ _ _ _ => pts_nil)
          (fun _ _ _ _ _ => pe_tup (pa_cons (pv 9) (pa_cons (pv 8) (pa_cons (pe_cmpR (or_K (r := fun K => rIn K false) op_in_seq K rfl) (pv 7) (pv 4) (by rfl)) pa_nil)))))
        (pg_lst rfl (pgs_cons (pg_name (i := 5) scSp.nd rfl (.inl rfl)) (pgs_cons (pg_name (i := 6) scSp.nd rfl (.inl rfl)) pgs_nil))))
      (pss_one (ps_ret (pe_cal CB hr (pa_cons (pv 2) (pa_cons (pv 1) (pa_cons (pv 5) (pa_cons (pv 6) pa_nil)))))))), ?_⟩
    obtain ⟨x, y, rfl⟩ : ∃ x y, ks = [x, y] := by
      match ks, l2 with
      | [x, y], _ => exact ⟨x, y, rfl⟩
    have lt : Hull.Lt x.2 y.2 := by
      rcases isf.sh with z | ⟨a, d, z, l⟩ | z
      · simp at z
      · have z' : [x.2, y.2] = [a, d] := z
        cases z'
        exact l
      · have := z.1
        simp at this
    have cx := isf.co x.2 (by simp)
    have cy := isf.co y.2 (by simp)
    refine ⟨.ref t, rfl, t, _, rfl, fa.tup, rfl, .int b, [.ref c, .ref o], rfl, .ref c, [.ref o], rfl, .ref o, [], rfl, rfl, ?_⟩
    refine ⟨.ref c, rfl, c, _, rfl, fa.cor, fun D nD => ?_⟩
    refine lc_it (walk_enum (K := K) (a := c) (xs := refs [x, y])) (fun j H' => Same H H' ∧ ∃ us : List Addr, H' D = some (.lst (us.map V.ref)) ∧ us.length = j ∧ ∀ (i : Nat) (u : Addr) (z : Addr × Hull.P), us[i]? = some u → [x, y][i]? = some z → H' u = some (.tup [.int z.2.2, .int z.2.1, .bl (os.contains (i : Int))])) ⟨same_new nD, [], upd_same, rfl, fun i u z h => by simp at h⟩ (fun j H' _ z => z.1.seq fa.cor) ?_ ?_
    · rintro j v H7 H8 hj ⟨s7, us, hD, lu, at_⟩ ⟨U, x1, x2, rfl, nU, rfl, e1, e2⟩
      have ex1 : x1 = .int (j : Nat) := (Option.some.inj e1).symm
      subst ex1
      obtain ⟨z, hz, rfl⟩ := refs_get e2
      have mz := List.mem_of_getElem? hz
      have s8 := same_new (o := .tup [.int (j : Nat), .ref z.1]) nU
      have s78 := s7.trans s8
      have f8 := fa.same s78
      refine ⟨U, _, rfl, SqT.of upd_same, rfl, .int (j : Nat), [.ref z.1], rfl, .ref z.1, [], rfl, z.1, _, rfl, f8.pts z mz, rfl, .int z.2.1, [.int z.2.2], rfl, .int z.2.2, [], rfl, rfl, rfl, rfl, yesT ?_⟩
      refine ⟨_, rfl, _, rfl, .int (j : Nat), rfl, .ref o, rfl, o, _, rfl, .inl f8.sid, rfl, by simp [flatV], ?_⟩
      have eo : (if false = true then !inV (.int (j : Nat)) (os.map V.int) else inV (.int (j : Nat)) (os.map V.int)) = os.contains (j : Int) := inV_ints
      refine ⟨by show 3 ≤ sizeLine; decide, fun u nu => ?_⟩
      have s9 := same_new (o := .tup [.int z.2.2, .int z.2.1, .bl (if false = true then !inV (.int (j : Nat)) (os.map V.int) else inV (.int (j : Nat)) (os.map V.int))]) nu
      have hD9 := s9 _ _ (s8 _ _ hD)
      have uD : u ≠ D := fun w => by rw [w, s8 _ _ hD] at nu; cases nu
      refine ⟨us.map V.ref, hD9, by rw [List.length_map, lu]; exact Nat.lt_of_lt_of_le (show j < 3 by rw [refs_len] at hj; simp at hj; omega) (by decide), fun a w e => ?_, us ++ [u], by rw [upd_same, List.map_append]; rfl, by rw [List.length_append, lu]; rfl, fun i v z' hi hz' => ?_⟩
      · rw [upd_ne (fun z => by rw [z, nD] at e; cases e)]
        exact s9 _ _ (s78 a w e)
      · by_cases li : i < us.length
        · rw [List.getElem?_append_left li] at hi
          have h7 := at_ i v z' hi hz'
          have vD : v ≠ D := fun w => by rw [w, hD] at h7; cases h7
          rw [upd_ne vD]
          exact s9 _ _ (s8 _ _ h7)
        · have ei : i = j := by
            have := (List.getElem?_eq_some_iff.mp hi).1
            rw [List.length_append, List.length_singleton] at this
            omega
          subst ei
          rw [List.getElem?_append_right (by omega), lu, Nat.sub_self] at hi
          cases hi
          rw [hz] at hz'
          cases hz'
          rw [upd_ne uD, upd_same, eo]
    · rintro H7 ⟨s7, us, hD, lu, at_⟩
      rw [refs_len] at lu
      match us, lu with
      | [u, v], _ =>
        have hu := at_ 0 u x rfl rfl
        have hv := at_ 1 v y rfl rfl
        refine ⟨D, _, rfl, SqL.of hD, rfl, .ref u, [.ref v], rfl, .ref v, [], rfl, rfl, ?_⟩
        refine ⟨.int b, rfl, .int n, rfl, .ref u, rfl, .ref v, rfl, b, n, u, v, x.2, y.2, os.contains 0, os.contains 1, rfl, isf.b1, isf.b2, n1, n_small n1 n2, cx, cy, fun z => ?_, hu, hv, fun H8 M ps s8 nM hM hA ok sep ln iff => ?_⟩
        · rw [z] at lt
          unfold Hull.Lt at lt
          omega
        · exact q H8 M ps (s7.trans s8) (s7.free nM) hM hA ok sep ln fun row px => (iff row px).trans (bel_two (by omega) lt).symm
theorem ok_fp {f R S fA fB fC : Addr} {fd fdA fdB fdC : FuncData} {k : Nat} (F : Fun K "fence_pieces" "fence_pieces" sFp f fd) (T : Nms mg) (CA : Cal P w K mg base (k + 1) "point_runs" fA fdA ["bottom", "size", "corner"] (spPr K R S))
    (CB : Cal P w K mg base (k + 1) "stretch_pieces" fB fdB ["fence", "size"] (spSp K R S)) (CC : Cal P w K mg base (k + 1) "field_pieces" fC fdC ["fence", "size"] (spFd K R S)) :
    FnOk P w K mg base CX0 (k + 1 + 1) f fd ["fence", "size"] (spFp K R S) := by
  refine F.ok scFp (fun vs H Q E h => ?_) (fun cdv A outer s H vs Q E hr h => ?_)
  · obtain ⟨t, c, o, b, n, ks, os, rfl, _⟩ := h
    rfl
  · obtain ⟨t, c, o, b, n, ks, os, rfl, fa, isf, n1, n2, q⟩ := h
    refine ⟨_, pss_cons (ps_asg (pv 0) (pg_tup rfl (pgs_cons (pg_name (i := 2) scFp.nd rfl (.inl rfl)) (pgs_cons (pg_name (i := 3) scFp.nd rfl (.inl rfl)) (pgs_cons (pg_name (i := 4) scFp.nd rfl (.inl rfl)) pgs_nil)))))
      (pss_cons (ps_if (pt_cmpR op_eq (pe_callB call_len_seq (by rfl) T.mlen PySem.boot_len (pa_cons (pv 3) pa_nil)) pe_int (nomark _)) (pss_one (ps_ret (pe_cal CA hr (pa_cons (pv 2) (pa_cons (pv 1) (pa_cons (pe_ix ix_list (pv 3) pe_int (fun _ _ => rfl)) pa_nil)))))) pss_nil)
      (pss_cons (ps_if (pt_cmpR op_eq (pe_callB call_len_seq (by rfl) T.mlen PySem.boot_len (pa_cons (pv 3) pa_nil)) pe_int (nomark _)) (pss_one (ps_ret (pe_cal CB hr (pa_cons (pv 0) (pa_cons (pv 1) pa_nil))))) pss_nil)
      (pss_one (ps_ret (pe_cal CC hr (pa_cons (pv 0) (pa_cons (pv 1) pa_nil))))))), ?_⟩
    refine ⟨.ref t, rfl, t, _, rfl, fa.tup, rfl, .int b, [.ref c, .ref o], rfl, .ref c, [.ref o], rfl, .ref o, [], rfl, rfl, ?_⟩
    have l1 := isf.l1
    rw [List.length_map] at l1
    refine ⟨.ref c, rfl, c, _, rfl, .inl fa.cor, rfl, _, rfl, ite2 (fun d => ?_) (fun d => ?_)⟩
    · rw [refs_len] at d
      have d1 : (ks.length : Int) = 1 := V.int.inj (of_decide_eq_true d)
      obtain ⟨x, rfl⟩ : ∃ x, ks = [x] := by
        match ks, (show ks.length = 1 by omega) with
        | [x], _ => exact ⟨x, rfl⟩
      have eo : os = [] := by
        match os, isf.inn with
        | [], _ => rfl
        | o :: r, h =>
          have := h o List.mem_cons_self
          have tz : tot ([x].map (·.2)) = 0 := rfl
          omega
      subst eo
      refine ⟨.int b, rfl, .int n, rfl, .ref c, rfl, c, _, 0, .ref x.1, rfl, rfl, fa.cor, atI_nat (j := 0) rfl, b, n, x.1, x.2, rfl, isf.b1, isf.b2, n_small n1 n2, isf.co x.2 (by simp), fa.pts x (by simp), fun H8 M ps s8 nM hM hA ok sep ln iff => ?_⟩
      exact q H8 M ps s8 nM hM hA ok sep (by omega) fun row px => (iff row px).trans bel_one.symm
    · have d1 : ks.length ≠ 1 := fun z => by
        rw [refs_len, z] at d
        exact d (decide_eq_true rfl)
      refine ⟨.ref c, rfl, c, _, rfl, .inl fa.cor, rfl, _, rfl, ite2 (fun d2 => ?_) (fun d2 => ?_)⟩
      · rw [refs_len] at d2
        have d3 : (ks.length : Int) = 2 := V.int.inj (of_decide_eq_true d2)
        exact ⟨.ref t, rfl, .int n, rfl, t, c, o, b, n, ks, os, rfl, fa, isf, by omega, n1, n2, fun H8 M ps s8 nM hM hA ok sep ln iff => q H8 M ps s8 nM hM hA ok sep (by omega) iff⟩
      · have d3 : ks.length ≠ 2 := fun z => by
          rw [refs_len, z] at d2
          exact d2 (decide_eq_true rfl)
        refine ⟨.ref t, rfl, .int n, rfl, t, c, o, b, n, ks, os, rfl, fa, isf, by omega, n1, n2, fun H8 M ps s8 nM hM hA ok sep ln iff => q H8 M ps s8 nM hM hA ok sep ln fun row px => (iff row px).trans ?_⟩
        unfold Geo.Bel
        rw [List.length_map]
        exact ⟨fun z => .inr ⟨by omega, z⟩, fun z => z.elim (fun z => by omega) fun z => z.2⟩
end
end K12
set_option Elab.async false
set_option linter.all false
set_option maxRecDepth 100000
set_option maxHeartbeats 1000000
set_option exponentiation.threshold 20000
namespace K12
open PySem PySem.Spec PyProof.Rows L2 Fen
abbrev sPool : Stmt := topS 59
abbrev sDrw : Stmt := topS 60
theorem scPool : FnScope ["_law_script", "_law_at", "_law_cell"] ["_law_script", "_law_at"] (defScope sPool) := ⟨rfl, rfl, rfl, by decide +kernel, rfl, by decide +kernel, by decide +kernel⟩
theorem scDrw : FnScope ["_law_pool_here", "_law_span", "_law_drawn", "_law_mixed"] ["_law_pool_here", "_law_span"] (defScope sDrw) := ⟨rfl, rfl, rfl, by decide +kernel, rfl, by decide +kernel, by decide +kernel⟩
/-- a bag at p, at most n times mixed -/
def BagAt (H : Hp) (p : Addr) (n : Nat) : Prop := ∃ d m c : Int, H p = some (.lst [.int d, .int m, .int c]) ∧ 0 ≤ m ∧ m < 2 ^ 140 ∧ 0 ≤ c ∧ c ≤ n
theorem BagAt.same {H H' : Hp} {p : Addr} {n : Nat} (b : BagAt H p n) (s : Same H H') : BagAt H' p n := by
  obtain ⟨d, m, c, h, r⟩ := b
  exact ⟨d, m, c, s _ _ h, r⟩
theorem BagAt.more {H : Hp} {p : Addr} {n n' : Nat} (b : BagAt H p n) (h : n ≤ n') : BagAt H p n' := by
  obtain ⟨d, m, c, e, a1, a2, a3, a4⟩ := b
  exact ⟨d, m, c, e, a1, a2, a3, by omega⟩
/-- only the bag at p was changed, and things are new -/
structure Drew (p : Addr) (H H' : Hp) (n : Nat) : Prop where
  x : SameX p H H'
  bag : BagAt H' p n
theorem Drew.free {p : Addr} {H H' : Hp} {n : Nat} (d : Drew p H H' n) {b : Addr} (h : H' b = none) : H b = none := by
  cases e : H b with
  | none => rfl
  | some o =>
    have bp : b ≠ p := fun z => by
      obtain ⟨_, _, _, hb, _⟩ := d.bag
      rw [z, hb] at h
      cases h
    rw [d.x b o bp e] at h
    cases h
theorem Drew.new {p : Addr} {H H' : Hp} {n : Nat} (d : Drew p H H' n) {H'' : Hp} (s : Same H' H'') : Drew p H H'' n := ⟨d.x.trans s.x, d.bag.same s⟩
theorem Drew.then {p : Addr} {H H' H'' : Hp} {n m : Nat} (d : Drew p H H' n) (e : Drew p H' H'' m) : Drew p H H'' m := ⟨d.x.trans e.x, e.bag⟩
theorem Drew.of {p : Addr} {H H' : Hp} {n : Nat} (b : BagAt H p n) (s : Same H H') : Drew p H H' n := ⟨s.x, b.same s⟩
theorem SameX.seqL {K : PySem.W.Frag} {p a : Addr} {H H' : Hp} {xs : List V} (s : SameX p H H') (n : a ≠ p) (h : SqL K H a xs) : SqL K H' a xs := by
  rcases h with (h | ⟨o, h⟩) | h
  · exact .inl (.inl (s _ _ n h))
  · exact .inl (.inr ⟨o, s _ _ n h⟩)
  · exact .inr h
section
variable {P : Program} {w : World} {K : PySem.W.Frag} {mg : Str → Option Value} {base : Heap}
/-- the cell is read -/
def TCe (K : PySem.W.Frag) : TS := fun D σ H => ∃ (a : Addr) (ns : List Int) (i : Nat), σ = [some (.ref a), some (.int (i : Nat)), none] ∧ SqL K H a (ns.map V.int) ∧ ∀ cell : Int, D.nx [some (.ref a), some (.int (i : Nat)), some (.int cell)] H
def spPool (K : PySem.W.Frag) : Sp := fun vs H Q _ => ∃ (a : Addr) (ns : List Int) (i : Nat), vs = [.ref a, .int (i : Nat)] ∧ SqL K H a (ns.map V.int) ∧ i ≤ 10 ∧ ∀ H' p, Same H H' → H p = none → BagAt H' p 0 → Q (.ref p) H'
theorem ok_pool {f : Addr} {fd : FuncData} {k : Nat} (F : Fun K "_law_pool" "_law_pool" sPool f fd) (mi : mg "int" = none) (mm : mg "max" = none) (ma : mg "abs" = none) (ml : mg "len" = none) : FnOk P w K mg base CX0 (k + 1) f fd ["_law_script", "_law_at"] (spPool K) := by
  refine F.ok scPool (fun vs H Q E h => ?_) (fun cdv A outer s H vs Q E hr h => ?_)
  · obtain ⟨a, ns, i, rfl, _⟩ := h
    rfl
  · obtain ⟨a, ns, i, rfl, hS, i10, q⟩ := h
    refine ⟨_, pss_cons (PS.of (TCe K) (ps_set (i := 2) scPool.nd rfl (.inl rfl) (pe_ifExp (pt_cmpR op_lt (pv 1) (pe_callB call_len_seq (by rfl) ml PySem.boot_len (pa_cons (pv 0) pa_nil)) (nomark _)) (pe_ix ix_list (pv 0) (pv 1) (fun _ _ => rfl)) pe_int)) ?s0)
      (pss_one (ps_ret (pe_lst (pa_cons (pe_callB (call_max2 rfl) (by rfl) mm (by decide +kernel) (pa_cons pe_int (pa_cons (pe_op op_sub (pe_callB call_abs (by rfl) ma (by decide +kernel) (pa_cons (pv 2) pa_nil)) (pe_op op_pow pe_int pe_int)) pa_nil)))
        (pa_cons (pe_op op_add (pe_op op_mod (pe_callTy call_int1 (by rfl) mi (by decide +kernel) (pa_cons (pv 2) pa_nil)) (pe_op op_add (pe_op op_pow pe_int pe_int) pe_int)) (pe_op op_mul pe_int (pe_op op_add (pv 1) pe_int))) (pa_cons pe_int pa_nil)))))), ?_⟩


    case s0 =>
      rintro D σ H ⟨a, ns, i, rfl, hS, k⟩
      refine ⟨_, rfl, .ref a, rfl, a, _, rfl, .inl hS, _, _, rfl, rfl, _, rfl, ?_⟩
      rw [List.length_map]
      by_cases lt : i < ns.length
      · rw [decide_eq_true (show ((i : Nat) : Int) < (ns.length : Nat) by omega)]
        refine (if_pos rfl).mpr ?_
        refine ⟨.ref a, rfl, .int (i : Nat), rfl, a, ns.map V.int, _, .int ns[i], rfl, rfl, hS, atI_nat (by rw [List.getElem?_map, List.getElem?_eq_getElem lt]; rfl), ?_⟩
        exact k _
      · rw [decide_eq_false (show ¬ ((i : Nat) : Int) < (ns.length : Nat) by omega)]
        exact (if_neg (by decide)).mpr (k 0)
    refine ⟨a, ns, i, rfl, hS, fun cell => ?_⟩
    refine ⟨_, rfl, cell, rfl, 10, 18, rfl, rfl, ⟨by decide, by decide, by decide⟩, _, _, rfl, rfl, _, _, rfl, _, rfl, .inl ⟨_, rfl, 10, 36, rfl, rfl, ⟨by decide, by decide, by decide⟩, _, _, rfl, rfl, _, _, rfl, rfl, (by decide : (0 : Int) < 10 ^ (36 : Int).toNat + 9), _, rfl, _, _, rfl, rfl, _, _, rfl, rfl, .inl ⟨by decide, by decide⟩, _, _, rfl, rfl, sz20 (by simp), fun p np => ?_⟩⟩
    have m0 := Int.emod_nonneg cell (show (10 : Int) ^ (36 : Int).toNat + 9 ≠ 0 by decide)
    have m1 := Int.emod_lt_of_pos cell (show (0 : Int) < 10 ^ (36 : Int).toNat + 9 by decide)
    have e1 : (10 : Int) ^ (36 : Int).toNat + 9 = 1000000000000000000000000000000000009 := by decide
    have e2 : (2 : Int) ^ 140 = 1393796574908163946345982392040522594123776 := by decide
    refine q _ p (same_new np) np ⟨_, _, _, upd_same, ?_, ?_, by decide, by decide⟩
    · show 0 ≤ cell % (10 ^ (36 : Int).toNat + 9) + 7368787 * (((i : Nat) : Int) + 1)
      omega
    · show cell % (10 ^ (36 : Int).toNat + 9) + 7368787 * (((i : Nat) : Int) + 1) < 2 ^ 140
      rw [e2]
      rw [e1] at m1 ⊢
      omega
def spDrw : Sp := fun vs H Q _ => ∃ (p : Addr) (wd : Int) (n : Nat), vs = [.ref p, .int wd] ∧ 0 < wd ∧ wd < 2 ^ 1000 ∧ BagAt H p n ∧ n ≤ 1000000 ∧ ∀ (r : Int) (H' : Hp), 0 ≤ r → r < wd → Drew p H H' (n + 1) → (∀ b, b ≠ p → H' b = H b) → Q (.int r) H'
theorem ok_drw {f : Addr} {fd : FuncData} {k : Nat} (F : Fun K "_law_draw" "_law_draw" sDrw f fd) (mi : mg "int" = none) : FnOk P w K mg base CX0 (k + 1) f fd ["_law_pool_here", "_law_span"] spDrw := by
  refine F.ok scDrw (fun vs H Q E h => ?_) (fun cdv A outer s H vs Q E hr h => ?_)
  · obtain ⟨p, wd, n, rfl, _⟩ := h
    rfl
  · obtain ⟨p, wd, n, rfl, w0, w1, ⟨d, m, c, hp, m0, m1, c0, c1⟩, n1, q⟩ := h
    have wb : wd.natAbs < 2 ^ 1000 := by
      have e : ((2 : Int) ^ 1000) = ((2 ^ 1000 : Nat) : Int) := by decide +kernel
      rw [e] at w1
      generalize (2 : Nat) ^ 1000 = M at *
      omega
    have q2 : ∀ (r d' c' : Int), 0 ≤ r → r < wd → 0 ≤ c' → c' ≤ c + 1 → Q (.int r) (upd H p (.lst [.int d', .int m, .int c'])) := fun r d' c' r0 r1 e0 e1 => q r _ r0 r1 ⟨SameX.put, d', m, c', upd_same, m0, m1, e0, by omega⟩ fun b hb => upd_ne hb
    refine ⟨_, pss_cons (ps_if (pt_cmpR op_gt (pe_ix ix_list (pv 0) pe_int (fun _ _ => rfl)) pe_int (nomark _))
        (pss_cons (ps_set (i := 2) scDrw.nd rfl (.inl rfl) (pe_op op_mod (pe_callTy call_int1 (by rfl) mi (by decide +kernel) (pa_cons (pe_ix ix_list (pv 0) pe_int (fun _ _ => rfl)) pa_nil)) (pv 1)))
        (pss_cons (ps_asg (pe_op op_fdivW (pe_ix ix_list (pv 0) pe_int (fun _ _ => rfl)) (pv 1)) (pg_sub (pv 0) pe_int set_list))
        (pss_one (ps_ret (pv 2))))) pss_nil)
      (pss_cons (ps_asg (pe_op op_add (pe_ix ix_list (pv 0) pe_int (fun _ _ => rfl)) pe_int) (pg_sub (pv 0) pe_int set_list))
      (pss_cons (ps_set (i := 3) scDrw.nd rfl (.inl rfl) (pe_op op_mod (pe_callTy call_int1 (by rfl) mi (by decide +kernel) (pa_cons (pe_op op_powW (pe_op op_add (pe_ix ix_list (pv 0) pe_int (fun _ _ => rfl)) (pe_op op_mul pe_int (pe_ix ix_list (pv 0) pe_int (fun _ _ => rfl)))) pe_int) pa_nil)) (pe_op op_add (pe_op op_pow pe_int pe_int) pe_int)))
      (pss_cons (ps_set (i := 3) scDrw.nd rfl (.inl rfl) (pe_op op_mod (pe_callTy call_int1 (by rfl) mi (by decide +kernel) (pa_cons (pe_op op_powW (pe_op op_add (pv 3) (pe_op op_mul pe_int (pe_ix ix_list (pv 0) pe_int (fun _ _ => rfl)))) pe_int) pa_nil)) (pe_op op_add (pe_op op_pow pe_int pe_int) pe_int)))
      (pss_one (ps_ret (pe_op op_mod (pe_callTy call_int1 (by rfl) mi (by decide +kernel) (pa_cons (pe_op op_fdiv (pv 3) pe_int) pa_nil)) (pv 1))))))), ?_⟩
    refine ⟨.ref p, rfl, p, _, 0, .int d, rfl, rfl, SqL.of hp, atI_nat (j := 0) rfl, _, _, rfl, rfl, _, rfl, ite2 (fun e => ?_) (fun e => ?_)⟩
    · refine ⟨.ref p, rfl, p, _, 0, .int d, rfl, rfl, SqL.of hp, atI_nat (j := 0) rfl, .inl ⟨_, rfl, _, rfl, _, _, rfl, rfl, w0, ?_⟩⟩
      refine ⟨.ref p, rfl, p, _, 0, .int d, rfl, rfl, SqL.of hp, atI_nat (j := 0) rfl, _, rfl, _, _, rfl, rfl, wide_div w0 wb (by decide) (by decide), .ref p, rfl, p, _, 0, 0, rfl, rfl, hp, rfl, ?_⟩
      exact ⟨_, rfl, q2 (d % wd) (d / wd) c (Int.emod_nonneg _ (by omega)) (Int.emod_lt_of_pos _ w0) c0 (by omega)⟩
    · refine ⟨.ref p, rfl, p, _, 2, .int c, rfl, rfl, SqL.of hp, atI_nat (j := 2) rfl, _, _, rfl, rfl, .ref p, rfl, p, _, 2, 2, rfl, rfl, hp, rfl, ?_⟩
      have h2 : upd H p (.lst ([V.int d, .int m, .int c].set 2 (.int (c + 1)))) p = some (.lst [.int d, .int m, .int (c + 1)]) := upd_same
      have cb : c + 1 ≤ 1000001 := by omega
      have bd : ∀ a b : Int, 0 ≤ a → a < 2 ^ 200 → 0 ≤ b → b ≤ 1000000000 → (a + b * (c + 1)).natAbs < 2 ^ 300 := fun a b a0 a1 b0 b1 => by
        have z : b * (c + 1) ≤ 1000000000 * 1000001 := Int.mul_le_mul b1 cb (by omega) (by decide)
        have z0 : 0 ≤ b * (c + 1) := Int.mul_nonneg b0 (by omega)
        have e1 : ((2 : Int) ^ 200) = ((2 ^ 200 : Nat) : Int) := by decide
        have e2 : (2 : Nat) ^ 200 + 1000000000 * 1000001 < 2 ^ 300 := by decide
        rw [e1] at a1
        generalize (2 : Nat) ^ 200 = M at *
        generalize (2 : Nat) ^ 300 = M' at *
        generalize b * (c + 1) = y at *
        omega
      refine ⟨.ref p, rfl, p, _, 1, .int m, rfl, rfl, SqL.of h2, atI_nat (j := 1) rfl, .ref p, rfl, p, _, 2, .int (c + 1), rfl, rfl, SqL.of h2, atI_nat (j := 2) rfl, _, _, rfl, rfl, .inl ⟨by decide, by decide⟩, _, _, rfl, rfl, ?_⟩
      refine ⟨_, _, rfl, rfl, pow_ok (by decide) (by decide) (bd m 15485863 m0 (Int.lt_trans m1 (by decide)) (by decide) (by decide)) (by decide) (by decide), .inl ⟨_, rfl, 10, 60, rfl, rfl, ⟨by decide, by decide, by decide⟩, _, _, rfl, rfl, _, _, rfl, rfl, (by decide : (0 : Int) < 10 ^ (60 : Int).toNat + 7), ?_⟩⟩
      have G0 : 0 ≤ (m + 15485863 * (c + 1)) ^ (3 : Int).toNat % (10 ^ (60 : Int).toNat + 7) := Int.emod_nonneg _ (by decide)
      have G1 : (m + 15485863 * (c + 1)) ^ (3 : Int).toNat % (10 ^ (60 : Int).toNat + 7) < 2 ^ 200 := Int.lt_trans (Int.emod_lt_of_pos _ (by decide)) (by decide)
      refine ⟨_, rfl, .ref p, rfl, p, _, 2, .int (c + 1), rfl, rfl, SqL.of h2, atI_nat (j := 2) rfl, _, _, rfl, rfl, .inl ⟨by decide, by decide⟩, _, _, rfl, rfl, ?_⟩
      refine ⟨_, _, rfl, rfl, pow_ok (by decide) (by decide) (bd _ 32452843 G0 G1 (by decide) (by decide)) (by decide) (by decide), .inl ⟨_, rfl, 10, 62, rfl, rfl, ⟨by decide, by decide, by decide⟩, _, _, rfl, rfl, _, _, rfl, rfl, (by decide : (0 : Int) < 10 ^ (62 : Int).toNat + 31), ?_⟩⟩
      refine ⟨_, rfl, _, _, rfl, rfl, ⟨by decide, by decide⟩, .inl ⟨_, rfl, _, rfl, _, _, rfl, rfl, w0, ?_⟩⟩
      exact q2 _ d (c + 1) (Int.emod_nonneg _ (by omega)) (Int.emod_lt_of_pos _ w0) (by omega) (by omega)
end
end K12
set_option Elab.async false
set_option linter.all false
set_option maxRecDepth 100000
set_option maxHeartbeats 1000000
set_option exponentiation.threshold 20000
namespace K12
open PySem PySem.Spec PyProof.Rows L2 Fen
abbrev sTr : Stmt := topS 61
abbrev sCor : Stmt := topS 62
theorem scTr : FnScope ["_law_one", "_law_two", "_law_three", "_law_wide", "_law_high"] ["_law_one", "_law_two", "_law_three"] (defScope sTr) := ⟨rfl, rfl, rfl, by decide +kernel, rfl, by decide +kernel, by decide +kernel⟩
theorem scCor : FnScope ["_law_spots", "_law_rows", "_law_found", "_law_line", "_law_half", "_law_spot"] ["_law_spots"] (defScope sCor) := ⟨rfl, rfl, rfl, by decide +kernel, rfl, by decide +kernel, by decide +kernel⟩
/-- places are not too far out -/
def Sw (p : Hull.P) : Prop := p.1.natAbs < 2 ^ 800 ∧ p.2.natAbs < 2 ^ 800
theorem sm_sw {p : Hull.P} (h : Sm p) : Sw p := ⟨Nat.lt_trans h.1 (by decide), Nat.lt_trans h.2 (by decide)⟩
/-- the chain over the places of a line -/
def THf (K : PySem.W.Frag) : TS := fun D σ H => ∃ (y0 y1 y2 y5 : Option V) (a wa : Addr) (ks : Pts), σ = [y0, y1, y2, some (.ref a), some (.ref wa), y5] ∧ a ≠ wa ∧ SqL K H a (refs ks) ∧ At K H ks ∧ (∀ p ∈ ks, Sm p.2) ∧ ks.length ≤ 1000 ∧ H wa = some (.lst []) ∧
  ∀ H' y5', SameX wa H H' → H' wa = some (.lst (refs (halfK ks).reverse)) → D.nx [y0, y1, y2, some (.ref a), some (.ref wa), y5'] H'
section
variable {P : Program} {w : World} {K : PySem.W.Frag} {mg : Str → Option Value} {base : Heap}
def spTr (K : PySem.W.Frag) : Sp := fun vs H Q _ => ∃ (a b c : Addr) (p q r : Hull.P), vs = [.ref a, .ref b, .ref c] ∧ SqT K H a [.int p.1, .int p.2] ∧ SqT K H b [.int q.1, .int q.2] ∧ SqT K H c [.int r.1, .int r.2] ∧ Sw p ∧ Sw q ∧ Sw r ∧ Q (.int (Hull.turn p q r)) H
theorem ok_tr {f : Addr} {fd : FuncData} {k : Nat} (F : Fun K "_law_turn" "_law_turn" sTr f fd) : FnOk P w K mg base CX0 (k + 1) f fd ["_law_one", "_law_two", "_law_three"] (spTr K) := by
  refine F.ok scTr (fun vs H Q E h => ?_) (fun cdv A outer s H vs Q E hr h => ?_)
  · obtain ⟨a, b, c, p, q, r, rfl, _⟩ := h
    rfl
  · obtain ⟨a, b, c, p, q, r, rfl, ha, hb, hc, sp, sq, sr, k⟩ := h
    refine ⟨_, pss_cons (ps_par (i := 3) (j := 4) rfl scTr.nd rfl rfl (by decide) rfl rfl (pa_cons (pe_op op_sub (pe_ix ix_tup (pv 1) pe_int (fun _ _ => rfl)) (pe_ix ix_tup (pv 0) pe_int (fun _ _ => rfl))) (pa_cons (pe_op op_sub (pe_ix ix_tup (pv 1) pe_int (fun _ _ => rfl)) (pe_ix ix_tup (pv 0) pe_int (fun _ _ => rfl))) pa_nil)) (by rfl)) (pss_one (ps_ret (pe_op op_sub (pe_op op_mulW (pv 3) (pe_op op_sub (pe_ix ix_tup (pv 2) pe_int (fun _ _ => rfl)) (pe_ix ix_tup (pv 0) pe_int (fun _ _ => rfl)))) (pe_op op_mulW (pv 4) (pe_op op_sub (pe_ix ix_tup (pv 2) pe_int (fun _ _ => rfl)) (pe_ix ix_tup (pv 0) pe_int (fun _ _ => rfl))))))), ?_⟩
    refine ⟨.ref b, rfl, b, _, 0, .int q.1, rfl, rfl, hb, rfl, .ref a, rfl, a, _, 0, .int p.1, rfl, rfl, ha, rfl, _, _, rfl, rfl, .ref b, rfl, b, _, 1, .int q.2, rfl, rfl, hb, rfl, .ref a, rfl, a, _, 1, .int p.2, rfl, rfl, ha, rfl, _, _, rfl, rfl, _, _, rfl, ?_⟩
    exact ⟨_, rfl, .ref c, rfl, c, _, 1, .int r.2, rfl, rfl, hc, rfl, .ref a, rfl, a, _, 1, .int p.2, rfl, rfl, ha, rfl, _, _, rfl, rfl, _, _, rfl, rfl, wide_mul (sub_small sq.1 sp.1) (sub_small sr.2 sp.2) (by decide) (by decide) (by decide), _, rfl, .ref c, rfl, c, _, 0, .int r.1, rfl, rfl, hc, rfl, .ref a, rfl, a, _, 0, .int p.1, rfl, rfl, ha, rfl, _, _, rfl, rfl, _, _, rfl, rfl, wide_mul (sub_small sq.2 sp.2) (sub_small sr.1 sp.1) (by decide) (by decide) (by decide), _, _, rfl, rfl, k⟩
theorem at_putX {H H' : Hp} {wa : Addr} {ks : Pts} {l : List V} (h : At K H ks) (hw : H wa = some (.lst l)) (s : SameX wa H H') : At K H' ks := fun p hp => L2.SqT.put (h p hp) hw s
theorem ok_cor {f fT : Addr} {fd fdT : FuncData} {k : Nat} (F : Fun K "_law_corners" "_law_corners" sCor f fd) (CT : Cal P w K mg base (k + 1) "_law_turn" fT fdT ["_law_one", "_law_two", "_law_three"] (spTr K)) (ml : mg "len" = none) (ms : mg "sorted" = none) (mt : mg "set" = none) :
    FnOk P w K mg base CX0 (k + 1 + 1) f fd ["_law_spots"] (spHul K) := by
  refine F.ok scCor (fun vs H Q E h => ?_) (fun cdv A outer s H vs Q E hr h => ?_)
  · obtain ⟨a, ks, rfl, _⟩ := h
    rfl
  · obtain ⟨a, ks, rfl, hS, hT, small, few, q⟩ := h
    refine ⟨_, pss_cons (ps_set (i := 1) scCor.nd rfl (.inl rfl) (pe_callB (cr_sortedSP rfl) (by rfl) ms (by decide +kernel) (pa_cons (pe_callTy (cr_setOfT rfl (hu_of64 hr)) (by rfl) mt (by decide +kernel) (pa_cons (pv 0) pa_nil)) pa_nil)))
      (pss_cons (ps_if (pt_cmpR op_lt (pe_callB call_len_seq (by rfl) ml PySem.boot_len (pa_cons (pv 1) pa_nil)) pe_int (nomark _)) (pss_one (ps_ret (pv 1))) pss_nil)
      (pss_cons (ps_set (i := 2) scCor.nd rfl (.inl rfl) (pe_lst pa_nil))
      (pss_cons (ps_for PassesOwn.never rfl (pi_tup (pe_tup (pa_cons (pv 1) (pa_cons (pe_revL (pv 1)) pa_nil)))) (pg_name (i := 3) scCor.nd rfl (.inl rfl))
        (pss_cons (ps_set (i := 4) scCor.nd rfl (.inl rfl) (pe_lst pa_nil))
        (pss_cons (PS.of (THf K) (ps_for PassesOwn.never rfl (pi_list (pv 3)) (pg_name (i := 5) scCor.nd rfl (.inl rfl))
          (pss_cons (ps_while PassesOwn.never (PW.pt (pw_and (pt_cmpR op_gt (pe_callB call_len_seq (by rfl) ml PySem.boot_len (pa_cons (pv 4) pa_nil)) pe_int (nomark _))
              (pw_and1 (pt_cmpR op_le (pe_cal CT hr (pa_cons (pe_ix ix_list (pv 4) (pe_un un_neg pe_int) (fun _ _ => rfl)) (pa_cons (pe_ix ix_list (pv 4) (pe_un un_neg pe_int) (fun _ _ => rfl)) (pa_cons (pv 5) pa_nil)))) pe_int (nomark _)))))
              (pss_one (ps_expr (pe_bm0 PySem.F.plainAttrs_list PySem.F.slot_list_pop PySem.F.type_list_pop mt_pop (pv 4)))))
          (pss_one (ps_expr (pe_bm PySem.F.plainAttrs_list PySem.F.slot_list_append PySem.F.type_list_append mt_append (pv 4) (pa_cons (pv 5) pa_nil)))))) ?s0)
        (pss_one (ps_set (i := 2) scCor.nd rfl (.inl rfl) (pe_op op_cat (pv 2) (pe_slice sl_list (pv 4) po_none (po_some (pe_un un_neg pe_int)))))))))
      (pss_one (ps_ret (pv 2)))))), ?_⟩
    case s0 =>
      rintro D σ H ⟨y0, y1, y2, y5, a, wa, ks, rfl, naw, hS, hT, small, few, hw0, go⟩
      refine ⟨.ref a, rfl, a, rfl, ⟨_, hS⟩, ?_⟩
      refine for_list (K := K) (a := a) (xs := refs ks) (fun i σ H3 => ∃ y5, σ = [y0, y1, y2, some (.ref a), some (.ref wa), y5] ∧ SameX wa H H3 ∧ H3 wa = some (.lst (refs (halfK (ks.take i)).reverse))) ?_ ?_ ?_ ?_
      · exact ⟨_, rfl, fun _ _ _ e => e, hw0⟩
      · rintro i σ H3 _ ⟨y5, rfl, sx, _⟩
        exact SameX.seqL sx naw hS
      · rintro i x σ H3 hx ⟨y5, rfl, sx, hw⟩
        obtain ⟨p, hp, rfl⟩ := refs_get hx
        have i1 : i < ks.length := (List.getElem?_eq_some_iff.mp hp).1
        have pm : p ∈ ks := List.mem_of_getElem? hp
        have stm : ∀ r ∈ halfK (ks.take i), r ∈ ks := fun r hr => List.mem_of_mem_take (half_sub _ r hr)
        have lst : (halfK (ks.take i)).length ≤ ks.length := Nat.le_trans (half_len _) (by rw [List.length_take]; omega)
        refine ⟨fun m σ' H' => ∃ st : Pts, st.length = m ∧ σ' = [y0, y1, y2, some (.ref a), some (.ref wa), some (.ref p.1)] ∧ SameX wa H H' ∧ H' wa = some (.lst (refs st.reverse)) ∧ popK p.2 st = popK p.2 (halfK (ks.take i)) ∧ (∀ r ∈ st, r ∈ ks) ∧ st.length ≤ ks.length, ⟨_, _, rfl, rfl, sx, hw, rfl, stm, lst⟩, ?_⟩
        rintro m σ' H' ⟨st, em, rfl, sx2, hw2, ep, sub, ls⟩
        have at2 : At K H' ks := at_putX hT hw0 sx2
        have out : popK p.2 st = st → ∀ T : L2.St → Hp → Prop, (∀ H5, SameX wa H H5 → H5 wa = some (.lst (refs (halfK (ks.take (i + 1))).reverse)) → T [y0, y1, y2, some (.ref a), some (.ref wa), some (.ref p.1)] H5) → T [y0, y1, y2, some (.ref a), some (.ref wa), some (.ref p.1)] (upd H' wa (.lst (refs st.reverse ++ [.ref p.1]))) := fun e T t => by
          refine t _ (sx2.trans SameX.put) ?_
          rw [upd_same, take_succ_at hp, half_snoc]
          show some (HO.lst _) = some (.lst (refs (p :: popK p.2 (halfK (ks.take i))).reverse))
          rw [← ep, e]
          simp [refs]
        refine ⟨.ref wa, rfl, wa, _, rfl, .inl (SqL.of hw2), _, _, rfl, rfl, _, rfl, ite2 (fun c => ?_) (fun c => ?_)⟩
        · rw [refs_len, List.length_reverse] at c
          have c2 : 1 < (st.length : Int) := of_decide_eq_true c
          rcases st with _ | ⟨b, _ | ⟨d, rest⟩⟩
          · simp at c2
          · simp at c2
          · have mb : b ∈ ks := sub b List.mem_cons_self
            have md : d ∈ ks := sub d (List.mem_cons_of_mem _ List.mem_cons_self)
            refine ⟨.ref wa, rfl, _, rfl, wa, _, _, .ref d.1, rfl, rfl, SqL.of hw2, at_2, .ref wa, rfl, _, rfl, wa, _, _, .ref b.1, rfl, rfl, SqL.of hw2, at_1, .ref p.1, rfl, d.1, b.1, p.1, d.2, b.2, p.2, rfl, at2 d md, at2 b mb, at2 p pm, sm_sw (small d md), sm_sw (small b mb), sm_sw (small p pm), _, _, rfl, rfl, _, rfl, ite2 (fun c3 => ?_) (fun c3 => ?_)⟩
            · have c4 : Hull.turn d.2 b.2 p.2 ≤ 0 := of_decide_eq_true c3
              refine ⟨fun σ' H' => ∃ m', m' < m ∧ ∃ st : Pts, st.length = m' ∧ σ' = [y0, y1, y2, some (.ref a), some (.ref wa), some (.ref p.1)] ∧ SameX wa H H' ∧ H' wa = some (.lst (refs st.reverse)) ∧ popK p.2 st = popK p.2 (halfK (ks.take i)) ∧ (∀ r ∈ st, r ∈ ks) ∧ st.length ≤ ks.length, fun σ' H' z => z, ?_⟩
              refine ⟨.ref wa, rfl, .inl ⟨rfl, _, SqL.of hw2⟩, wa, _, _, rfl, rfl, hw2, refs_last, (d :: rest).length, ?_, d :: rest, rfl, rfl, sx2.trans SameX.put, ?_, ?_, fun r hr => sub r (List.mem_cons_of_mem _ hr), ?_⟩
              · rw [← em]
                exact Nat.lt_succ_self _
              · rw [upd_same, refs_drop]
              · rw [← ep, popK_go c4]
              · exact Nat.le_trans (Nat.le_succ _) ls
            · have c4 : ¬ Hull.turn d.2 b.2 p.2 ≤ 0 := fun z => c3 (decide_eq_true z)
              refine ⟨.ref wa, rfl, .inl ⟨rfl, _, SqL.of hw2⟩, .ref p.1, rfl, wa, _, .ref p.1, rfl, rfl, hw2, by rw [refs_len, List.length_reverse]; exact sz20 (by omega), ?_⟩
              exact out (popK_stay c4) _ fun H5 s5 e5 => ⟨_, rfl, s5, e5⟩
        · refine iteF ?_
          refine ⟨.ref wa, rfl, .inl ⟨rfl, _, SqL.of hw2⟩, .ref p.1, rfl, wa, _, .ref p.1, rfl, rfl, hw2, by rw [refs_len, List.length_reverse]; exact sz20 (by omega), ?_⟩
          refine out ?_ _ fun H5 s5 e5 => ⟨_, rfl, s5, e5⟩
          rw [refs_len, List.length_reverse] at c
          rcases st with _ | ⟨b, _ | ⟨d, rest⟩⟩
          · rfl
          · rfl
          · exfalso
            refine c (decide_eq_true ?_)
            simp
            omega
      · rintro σ H3 ⟨y5, rfl, sx, hw⟩
        rw [refs_len, List.take_length] at hw
        exact go H3 y5 sx hw
    refine ⟨.ref a, rfl, a, ks.map enc, rfl, by rw [refs_enc]; exact hS, fun p hp => ?_, by rw [List.length_map]; exact few, fun sa L ns h1 h2 => ?_⟩
    · obtain ⟨r, hr2, rfl⟩ := List.mem_map.mp hp
      exact hT r hr2
    refine ⟨sa, L, rfl, upd_same, fun p hp => ?_, fun p hp => ?_, fun M wa pm nd l64 pw nw => ?_⟩
    · obtain ⟨r, hr2, rfl⟩ := List.mem_map.mp (h1 p hp)
      exact (same_new ns).seqT (hT r hr2)
    · obtain ⟨r, hr2, rfl⟩ := List.mem_map.mp (h1 p hp)
      exact ⟨_, _, rfl⟩
    obtain ⟨e1, sub, asc, mem⟩ := asc_pts h1 h2 pm nd pw
    rw [e1]
    generalize M.map dec = hs at e1 sub asc mem ⊢
    have len : hs.length = M.length := by
      have := congrArg List.length e1
      rw [List.length_map, refs_len] at this
      exact this.symm
    have s1 : Same H (upd (upd H sa (SetTO _ _ sa L)) wa (.lst (refs hs))) := (same_new ns).trans (same_new nw)
    generalize hH1 : upd (upd H sa (SetTO _ _ sa L)) wa (.lst (refs hs)) = H1 at s1 ⊢
    have hw : H1 wa = some (.lst (refs hs)) := by
      rw [← hH1]
      exact upd_same
    have nw1 : H wa = none := (same_new ns).free nw
    refine ⟨.ref wa, rfl, wa, _, rfl, .inl (SqL.of hw), _, _, rfl, rfl, _, rfl, ite2 (fun c => ?_) (fun c => ?_)⟩
    · refine ⟨_, rfl, q _ wa hs (hs.map (·.2)) s1 nw1 hw sub asc mem ?_⟩
      rw [refs_len] at c
      exact (show hul (hs.map (·.2)) = hs.map (·.2) from hul_few (by rw [List.length_map]; have := of_decide_eq_true c; omega)).symm
    · rw [refs_len] at c
      have l1 : hs.length ≠ 1 := fun z => by
        rw [z] at c
        exact c (decide_eq_true (by decide))
      have smh : ∀ p ∈ hs, Sm p.2 := fun p hp => small p (sub p hp)
      refine ⟨by show 0 ≤ sizeLine; decide, fun fo nfo => ?_⟩
      have s2 := s1.trans (same_new (o := .lst []) nfo)
      refine ⟨.ref wa, rfl, .ref wa, rfl, wa, refs hs, rfl, SqL.of ((same_new nfo) _ _ hw), fun z nz => ?_⟩
      have s3 := s2.trans (same_new (o := .lst (refs hs).reverse) nz)
      refine ⟨by show 2 ≤ sizeLine; decide, fun tu ntu => ?_⟩
      have c4 := ((same_new (o := .lst []) nfo).trans (same_new (o := .lst (refs hs).reverse) nz)).trans (same_new (o := .tup [.ref wa, .ref z]) ntu)
      have gf := ((same_new (o := .lst (refs hs).reverse) nz).trans (same_new (o := .tup [.ref wa, .ref z]) ntu)) _ _ (upd_same : (upd H1 fo (.lst [])) fo = some (.lst []))
      have gz := (same_new (o := .tup [.ref wa, .ref z]) ntu) _ _ (upd_same : (upd (upd H1 fo (.lst [])) z (.lst (refs hs).reverse)) z = some (.lst (refs hs).reverse))
      have gt : (upd (upd (upd H1 fo (.lst [])) z (.lst (refs hs).reverse)) tu (.tup [.ref wa, .ref z])) tu = some (.tup [.ref wa, .ref z]) := upd_same
      have hw4 := c4 _ _ hw
      generalize upd (upd (upd H1 fo (.lst [])) z (.lst (refs hs).reverse)) tu (.tup [.ref wa, .ref z]) = H4 at c4 gf gz gt hw4 ⊢
      have s4 := s1.trans c4
      have T4 : At K H4 hs := (hT.sub sub).same s4
      have b1 := half_len hs
      have b2 := half_len hs.reverse
      rw [List.length_reverse] at b2
      refine ⟨tu, rfl, ⟨_, SqT.of gt⟩, ?_⟩
      refine for_it (walk_tup (K := K) (a := tu) (xs := [.ref wa, .ref z])) (fun i σ H' => ∃ y3 y4 y5 f, σ = [some (.ref a), some (.ref wa), some (.ref f), y3, y4, y5] ∧ Same H4 H' ∧ H f = none ∧ H' f = some (.lst ((if 1 ≤ i then (refs (halfK hs).reverse).dropLast else []) ++ if 2 ≤ i then (refs (halfK hs.reverse).reverse).dropLast else []))) ⟨_, _, _, fo, rfl, Same.refl _, s1.free nfo, gf⟩ (fun i σ H' _ z => ?_) ?_ ?_
      · obtain ⟨_, _, _, _, _, z, _⟩ := z
        exact SqT.of (z _ _ gt)
      · rintro i x σ H7 H8 hi ⟨y3, y4, y5, f, rfl, s7, nf, hf⟩ ⟨rfl, hx⟩
        obtain ⟨la, lk, rfl, hl, mem2, len2, nxt⟩ : ∃ (la : Addr) (lk : Pts), x = .ref la ∧ H8 la = some (.lst (refs lk)) ∧ (∀ p ∈ lk, p ∈ hs) ∧ lk.length = hs.length ∧ ((if 1 ≤ i then (refs (halfK hs).reverse).dropLast else []) ++ if 2 ≤ i then (refs (halfK hs.reverse).reverse).dropLast else []) ++ (refs (halfK lk).reverse).dropLast = ((if 1 ≤ i + 1 then (refs (halfK hs).reverse).dropLast else []) ++ if 2 ≤ i + 1 then (refs (halfK hs.reverse).reverse).dropLast else []) := by
          have : i = 0 ∨ i = 1 := by simp at hi; omega
          rcases this with rfl | rfl
          · cases hx
            exact ⟨wa, hs, rfl, s7 _ _ hw4, fun p h => h, rfl, by simp⟩
          · cases hx
            exact ⟨z, hs.reverse, rfl, by rw [s7 _ _ gz]; simp [refs], fun p h => List.mem_reverse.mp h, List.length_reverse, by simp⟩
        refine ⟨by show 0 ≤ sizeLine; decide, fun h nh => ?_⟩
        have e8 := same_new (o := .lst []) nh
        have nla : la ≠ h := fun w => by rw [w, nh] at hl; cases hl
        refine ⟨_, _, _, _, la, h, lk, rfl, nla, SqL.of (e8 _ _ hl), ((T4.sub mem2).same s7).same e8, fun p hp => smh p (mem2 p hp), by omega, upd_same, fun H9 y5' sx hh => ?_⟩
        have s9 : Same H8 H9 := (e8.x.trans sx).same nh
        refine ⟨.ref f, rfl, .ref h, rfl, 1, rfl, -1, rfl, h, _, rfl, SqL.of hh, fun y ny => ?_⟩
        rw [cut_last]
        have s10 := s9.trans (same_new (o := .lst (refs (halfK lk).reverse).dropLast) ny)
        have b3 := half_len lk
        refine ⟨f, y, _, _, rfl, rfl, s10 _ _ hf, upd_same, ?_, fun t nt => ?_⟩
        · have l1 : ((if 1 ≤ i then (refs (halfK hs).reverse).dropLast else []) ++ if 2 ≤ i then (refs (halfK hs.reverse).reverse).dropLast else []).length ≤ 2 * hs.length := by
            rw [List.length_append]
            have d1 : (refs (halfK hs).reverse).dropLast.length ≤ hs.length := by rw [List.length_dropLast, refs_len, List.length_reverse]; omega
            have d2 : (refs (halfK hs.reverse).reverse).dropLast.length ≤ hs.length := by rw [List.length_dropLast, refs_len, List.length_reverse]; omega
            split <;> split <;> (try simp only [List.length_nil]) <;> omega
          rw [List.length_dropLast, refs_len, List.length_reverse]
          exact sz20 (by omega)
        · rw [nxt]
          exact ⟨_, _, _, t, rfl, s7.trans (s10.trans (same_new nt)), (s4.trans (s7.trans s10)).free nt, upd_same⟩
      · rintro σ H7 ⟨y3, y4, y5, f, rfl, s7, nf, hf⟩
        have e5 : ((if 1 ≤ [V.ref wa, V.ref z].length then (refs (halfK hs).reverse).dropLast else []) ++ if 2 ≤ [V.ref wa, V.ref z].length then (refs (halfK hs.reverse).reverse).dropLast else []) = refs (hullK hs) := by
          simp only [List.length_cons, List.length_nil]
          unfold hullK refs
          rw [List.map_append, List.map_dropLast, List.map_dropLast]
          rfl
        rw [e5] at hf
        refine ⟨_, rfl, q _ f (hullK hs) (hs.map (·.2)) (s4.trans s7) nf hf (fun p hp => sub p (hullK_sub hs p hp)) asc mem ?_⟩
        rw [hullK_snd]
        unfold hul
        rw [if_neg (by rw [List.length_map]; exact l1)]
end
end K12
set_option Elab.async false
set_option linter.all false
set_option maxRecDepth 100000
set_option maxHeartbeats 1000000
set_option exponentiation.threshold 20000
namespace Fen
open PySem PySem.Spec PyProof.Rows L2
/-! written points, lists of them, fences -/
def tPtA (K : PySem.W.Frag) (ps : List Hull.P) : TA := fun σ H Q => ∀ H' ks, Same H H' → At K H' ks → ks.map (·.2) = ps → Q (refs ks) H'
def tPtL (K : PySem.W.Frag) (ps : List Hull.P) : TE := fun σ H Q => ∀ H' f ks, Same H H' → H f = none → H' f = some (.lst (refs ks)) → At K H' ks → ks.map (·.2) = ps → Q (.ref f) H'
theorem PA.of {X : Cx} {es : List Expr} {t : TA} (t' : TA) (h : PA X es t) (hi : ∀ σ H Q, t' σ H Q → t σ H Q) : PA X es t' := ⟨fun pos pins s σ H Q I q => h.run pos pins s σ H Q I (hi σ H Q q)⟩
section
variable {X : Cx} {K : PySem.W.Frag}
theorem pa_ptnil : PA X [] (tPtA K []) := PA.of _ pa_nil fun σ H Q h => h H [] (Same.refl _) (fun p hp => nomatch hp) rfl
theorem pa_pt {e1 e2 : Expr} {es : List Expr} {i j : Int} {ps : List Hull.P} {kk : Nat} {pos : Pos} (h1 : PE X e1 (tC (.int i))) (h2 : PE X e2 (tC (.int j))) (hr : PA X es (tPtA K ps)) (hK : X.K = K := by rfl)
    (n1 : starEach (e1 :: [e2]) X.env = (false, eval e1 X.env) :: starEach [e2] X.env := by rfl) (n2 : starEach (e2 :: []) X.env = (false, eval e2 X.env) :: starEach [] X.env := by rfl)
    (hs : starEach (.Tuple [e1, e2] kk pos :: es) X.env = (false, eval (.Tuple [e1, e2] kk pos) X.env) :: starEach es X.env := by rfl) : PA X (.Tuple [e1, e2] kk pos :: es) (tPtA K ((i, j) :: ps)) := by
  subst hK
  refine PA.of _ (pa_cons (pe_tup (pa_cons h1 (pa_cons h2 pa_nil n2) n1)) hr hs) fun σ H Q h => ?_
  refine ⟨by show 2 ≤ sizeLine; decide, fun t nt => fun H' ks s T e => ?_⟩
  refine h H' ((t, (i, j)) :: ks) ((same_new nt).trans s) (fun p hp => ?_) (by rw [List.map_cons, e])
  rcases List.mem_cons.mp hp with rfl | z
  · exact SqT.of (s _ _ upd_same)
  · exact T p z
theorem pe_ptl {es : List Expr} {ps : List Hull.P} {pos : Pos} (h : PA X es (tPtA K ps)) (hl : ps.length ≤ 4000) : PE X (.List es pos) (tPtL K ps) := by
  refine PE.of _ (pe_lst h) fun σ H Q q => fun H' ks s T e => ⟨?_, fun f nf => ?_⟩
  · have := congrArg List.length e
    rw [List.length_map] at this
    rw [refs_len]
    exact sz20 (by omega)
  · exact q _ f ks (s.trans (same_new nf)) (s.free nf) upd_same (T.same (same_new nf)) e
end
end Fen
namespace Fen
open PySem PySem.Spec PyProof.Rows L2
/-- a fence is there -/
def TFs (K : PySem.W.Frag) (H : Hp) (b : Int) (ps : List Hull.P) (os : List Int) (t : Addr) : Prop := ∃ c o ks, FPl K H t c o b ks os ∧ ks.map (·.2) = ps
theorem TFs.same {K : PySem.W.Frag} {H H' : Hp} {b : Int} {ps : List Hull.P} {os : List Int} {t : Addr} (h : TFs K H b ps os t) (s : Same H H') : TFs K H' b ps os t := by
  obtain ⟨c, o, ks, f, r⟩ := h
  exact ⟨c, o, ks, f.same s, r⟩
theorem TFs.dp {K : PySem.W.Frag} {H : Hp} {b : Int} {ps : List Hull.P} {os : List Int} {t : Addr} (h : TFs K H b ps os t) : Dp K H (.ref t) (fD b ps os) := by
  obtain ⟨c, o, ks, f, rfl⟩ := h
  exact f.fat.dp
def tFenS (K : PySem.W.Frag) (b : Int) (ps : List Hull.P) (os : List Int) : TE := fun σ H Q => ∀ H' t, Same H H' → TFs K H' b ps os t → Q (.ref t) H'
section
variable {X : Cx} {K : PySem.W.Frag}
theorem pe_fenS {e1 e2 : Expr} {es : List Expr} {b : Int} {ps : List Hull.P} {os : List Int} {kk : Nat} {pos lp : Pos} {t3 : L2.TA} (h1 : PE X e1 (tC (.int b))) (h2 : PE X e2 (tPtL K ps)) (h3 : PA X es t3) (hi : ∀ σ H Q, Q (os.map V.int) H → t3 σ H Q) (lo : os.length ≤ 10)
    (n1 : starEach [e1, e2, .List es lp] X.env = (false, eval e1 X.env) :: starEach [e2, .List es lp] X.env := by rfl) (n2 : starEach [e2, .List es lp] X.env = (false, eval e2 X.env) :: starEach [.List es lp] X.env := by rfl)
    (n3 : starEach [.List es lp] X.env = (false, eval (.List es lp) X.env) :: starEach [] X.env := by rfl) : PE X (.Tuple [e1, e2, .List es lp] kk pos) (tFenS K b ps os) := by
  refine PE.of _ (pe_tup (pa_cons h1 (pa_cons h2 (pa_cons (pe_lst h3) pa_nil n3) n2) n1)) fun σ H Q h => ?_
  refine fun H1 f ks s1 nf hf T e => hi _ _ _ ⟨by rw [List.length_map]; exact Nat.le_trans lo (by decide), fun x nx => ⟨by show 3 ≤ sizeLine; decide, fun t nt => ?_⟩⟩
  have s2 := (same_new (o := .lst (os.map V.int)) nx).trans (same_new (o := .tup [.int b, .ref f, .ref x]) nt)
  exact h _ t (s1.trans s2) ⟨f, x, ks, ⟨upd_same, s2 _ _ hf, T.same s2, (same_new nt) _ _ upd_same⟩, e⟩
end
theorem pts_push {K : PySem.W.Frag} {H0 H : Hp} {N u : Addr} {near : Pts} {q : Hull.P} (s : Same H0 H) (nN : H0 N = none) (hN : H N = some (.lst (refs near))) (T : At K H near) (nu : H u = none) :
    (upd H u (.tup [.int q.1, .int q.2])) N = some (.lst (refs near)) ∧ Same H0 (upd (upd H u (.tup [.int q.1, .int q.2])) N (.lst (refs near ++ [.ref u]))) ∧ (upd (upd H u (.tup [.int q.1, .int q.2])) N (.lst (refs near ++ [.ref u]))) N = some (.lst (refs (near ++ [(u, q)]))) ∧ At K (upd (upd H u (.tup [.int q.1, .int q.2])) N (.lst (refs near ++ [.ref u]))) (near ++ [(u, q)]) := by
  have s3 := same_new (o := .tup [.int q.1, .int q.2]) nu
  have hN3 := s3 _ _ hN
  have uN : u ≠ N := fun z => by
    rw [z, hN] at nu
    cases nu
  refine ⟨hN3, fun a r e => ?_, ?_, fun r hr => ?_⟩
  · have nb : a ≠ N := fun y => by rw [y, nN] at e; cases e
    rw [upd_ne nb]
    exact (s.trans s3) a r e
  · rw [upd_same]
    simp [refs]
  · rcases List.mem_append.mp hr with z | z
    · exact L2.SqT.put ((T.same s3) r z) hN3 SameX.put
    · rw [List.mem_singleton.mp z]
      refine SqT.of ?_
      rw [upd_ne uN]
      exact upd_same
theorem sz_push {near : Pts} {n : Nat} (h : near.length = n) (l : n ≤ 60) : (refs near).length < sizeLine := by
  rw [refs_len, h]
  exact Nat.lt_of_le_of_lt l (by decide)
end Fen
set_option Elab.async false
set_option linter.all false
set_option maxRecDepth 100000
set_option maxHeartbeats 1000000
set_option exponentiation.threshold 20000
namespace K12
open PySem PySem.Spec PyProof.Rows L2 Fen
theorem Drew.list_ne {p : Addr} {H H' : Hp} {n : Nat} (d : Drew p H H' n) {b : Addr} (h : H' b = none) : b ≠ p := fun z => by
  obtain ⟨_, _, _, e, _⟩ := d.bag
  rw [z, e] at h
  cases h
theorem BagAt.ne {p : Addr} {H : Hp} {n : Nat} (d : BagAt H p n) {b : Addr} (h : H b = none) : b ≠ p := fun z => by
  obtain ⟨_, _, _, e, _⟩ := d
  rw [z, e] at h
  cases h
theorem Drew.put {p g : Addr} {H H' : Hp} {n : Nat} {o : HO} (d : Drew p H H' n) (hg : H g = none) (gp : g ≠ p) : Drew p H (upd H' g o) n := by
  refine ⟨fun b u bn e => ?_, ?_⟩
  · rw [upd_ne (ne_of_none e hg)]
    exact d.x b u bn e
  · obtain ⟨a1, a2, a3, e, r⟩ := d.bag
    exact ⟨a1, a2, a3, (upd_ne (Ne.symm gp)).trans e, r⟩
theorem At.put {H H' : Hp} {K : PySem.W.Frag} {p : Addr} {l : List V} {ks : Pts} (h : At K H ks) (hp : H p = some (.lst l)) (s : SameX p H H') : At K H' ks := fun q hq => L2.SqT.put (h q hq) hp s
theorem At.drew {K : PySem.W.Frag} {H H' : Hp} {p : Addr} {n m : Nat} {ks : Pts} (h : At K H ks) (b : BagAt H p n) (s : Drew p H H' m) : At K H' ks := by
  obtain ⟨d, m, c, e, _⟩ := b
  exact At.put h e s.x
/-- the field of ten corners -/
def T10 : List Hull.P := [(0, 0), (1, -2), (3, -3), (5, -3), (7, -2), (8, 0), (7, 2), (5, 3), (3, 3), (1, 2)]
def af (l d s : Int) (q : Hull.P) : Hull.P := (l + s * q.1, d + s * q.2)
theorem turn_af (l d s : Int) (a b c : Hull.P) : Hull.turn (af l d s a) (af l d s b) (af l d s c) = s * s * Hull.turn a b c := by
  unfold Hull.turn af
  simp only
  grind
theorem left_ten : ∀ i j : Fin 10, j ≠ i → j.val ≠ (i.val + 1) % 10 → 0 < Hull.turn (T10.getD i.val (0, 0)) (T10.getD ((i.val + 1) % 10) (0, 0)) (T10.getD j.val (0, 0)) := by decide +kernel
theorem out_ten {l d s : Int} (hs : 0 < s) : Out (T10.map (af l d s)) := by
  refine ⟨⟨af l d s (0, 0), rfl, fun x hx ne => ?_⟩, fun i j a b c hi hj ea eb ec n1 n2 => ?_⟩
  · obtain ⟨q, hq, rfl⟩ := List.mem_map.mp hx
    have pos : ∀ q ∈ T10, q = (0, 0) ∨ 0 < q.1 := by decide
    rcases pos q hq with rfl | h
    · exact absurd rfl ne
    · have := Int.mul_pos hs h
      refine .inl ?_
      show l + s * 0 < l + s * q.1
      omega
  · have e10 : (T10.map (af l d s)).length = 10 := rfl
    rw [e10] at hi hj eb n2
    have g : ∀ {k : Nat} {x : Hull.P}, (T10.map (af l d s))[k]? = some x → x = af l d s (T10.getD k (0, 0)) := fun {k x} h => by
      rw [List.getElem?_map] at h
      obtain ⟨y, hy, rfl⟩ := Option.map_eq_some_iff.mp h
      rw [List.getD_eq_getElem?_getD, hy]
      rfl
    rw [g ea, g eb, g ec, turn_af]
    exact Int.mul_pos (Int.mul_pos hs hs) (left_ten ⟨i, hi⟩ ⟨j, hj⟩ (fun z => n1 (congrArg Fin.val z)) n2)
def CorB (far : Int) (q : Hull.P) : Prop := -far ≤ q.1 ∧ q.1 ≤ far ∧ -far ≤ q.2 ∧ q.2 ≤ far
theorem corb_cor {far : Int} {q : Hull.P} (h : far ≤ 10 ^ 30) (c : CorB far q) : Cor q := by
  obtain ⟨c1, c2, c3, c4⟩ := c
  unfold Cor
  generalize (10 : Int) ^ 30 = X at *
  omega
abbrev sTen : Stmt := topS 63
abbrev nTen : List Str := ["_law_pool_here", "_law_far", "_law_scale", "_law_left", "_law_down", "_law_ten_here", "_law_x", "_law_y"]
theorem scTen : FnScope nTen ["_law_pool_here", "_law_far"] (defScope sTen) := ⟨rfl, rfl, rfl, by decide +kernel, rfl, by decide +kernel, by decide +kernel⟩
section
variable {P : Program} {w : World} {K : PySem.W.Frag} {mg : Str → Option Value} {base : Heap}
theorem drew_zero {p : Addr} {H : Hp} {n : Nat} (b : BagAt H p n) : Drew p H H n := ⟨fun _ _ _ e => e, b⟩
def spTen (K : PySem.W.Frag) : Sp := fun vs H Q _ => ∃ (p : Addr) (far : Int) (n : Nat), vs = [.ref p, .int far] ∧ BagAt H p n ∧ n + 100 ≤ 1000000 ∧ 20 ≤ far ∧ far ≤ 10 ^ 30 ∧
  ∀ H' f ks, Drew p H H' (n + 3) → H f = none → f ≠ p → H' f = some (.lst (refs ks)) → At K H' ks → Shape (ks.map (·.2)) → (∀ q ∈ ks, CorB far q.2) → ks.length = 10 → Q (.ref f) H'
theorem ok_ten {f fD : Addr} {fd fdD : FuncData} {k : Nat} (F : Fun K "_law_ten" "_law_ten" sTen f fd) (CD : Cal P w K mg base (k + 1) "_law_draw" fD fdD ["_law_pool_here", "_law_span"] spDrw) :
    FnOk P w K mg base CX0 (k + 1 + 1) f fd ["_law_pool_here", "_law_far"] (spTen K) := by
  refine F.ok scTen (fun vs H Q E h => ?_) (fun cdv A outer s H vs Q E hr h => ?_)
  · obtain ⟨p, far, n, rfl, _⟩ := h
    rfl
  · obtain ⟨p, far, n, rfl, hb, hn, f1, f2, q⟩ := h
    refine ⟨_, pss_cons (ps_set (i := 2) scTen.nd rfl (.inr rfl) (pe_op op_add pe_int (pe_cal CD hr (pa_cons (pv 0) (pa_cons (pe_op op_fdiv (pv 1) pe_int) pa_nil)))))
      (pss_cons (ps_asg (pe_tup (pa_cons (pe_op op_sub (pe_cal CD hr (pa_cons (pv 0) (pa_cons (pe_op op_add (pe_op op_fdiv (pv 1) pe_int) pe_int) pa_nil))) (pe_op op_fdiv (pv 1) pe_int)) (pa_cons (pe_op op_sub (pe_cal CD hr (pa_cons (pv 0) (pa_cons (pe_op op_add (pe_op op_fdiv (pv 1) pe_int) pe_int) pa_nil))) (pe_op op_fdiv (pv 1) pe_int)) pa_nil)))
        (pg_tup rfl (pgs_cons (pg_name (i := 3) scTen.nd rfl (.inr rfl)) (pgs_cons (pg_name (i := 4) scTen.nd rfl (.inr rfl)) pgs_nil))))
      (pss_cons (ps_set (i := 5) scTen.nd rfl (.inl rfl) (pe_ptl (K := K) (pa_pt pe_int pe_int (pa_pt pe_int (PE.of (tC (.int (-2))) (pe_un un_neg pe_int) fun _ _ _ q => ⟨2, rfl, q⟩) (pa_pt pe_int (PE.of (tC (.int (-3))) (pe_un un_neg pe_int) fun _ _ _ q => ⟨3, rfl, q⟩) (pa_pt pe_int (PE.of (tC (.int (-3))) (pe_un un_neg pe_int) fun _ _ _ q => ⟨3, rfl, q⟩) (pa_pt pe_int (PE.of (tC (.int (-2))) (pe_un un_neg pe_int) fun _ _ _ q => ⟨2, rfl, q⟩)
          (pa_pt pe_int pe_int (pa_pt pe_int pe_int (pa_pt pe_int pe_int (pa_pt pe_int pe_int (pa_pt pe_int pe_int pa_ptnil)))))))))) (by decide)))
      (pss_one (ps_ret (pe_lc (own := [("_law_x", 6), ("_law_y", 7)]) (g := gTup K 2 (gCons (gName 6) (gCons (gName 7) gNil))) (tt := tYes) rfl scTen.nd (pi_list (pv 5)) (blkOk_by (N := nTen) (sc := defScope sTen) (by decide +kernel)) (fun _ _ _ _ _ => pg_tup rfl (pgs_cons (pg_name (i := 6) scTen.nd rfl (Or.inl rfl)) (pgs_cons (pg_name (i := 7) scTen.nd rfl (Or.inl rfl)) pgs_nil))) (fun _ _ _ _ _ => pts_nil)
          (fun _ _ _ _ _ => pe_tup (pa_cons (pe_op op_add (pv 3) (pe_op op_mulW (pv 2) (pv 6))) (pa_cons (pe_op op_add (pv 4) (pe_op op_mulW (pv 2) (pv 7))) pa_nil)))))))), ?_⟩
    have e30 : (10 : Int) ^ 30 = 1000000000000000000000000000000 := by decide
    rw [e30] at f2
    have e1000 : (1000000000000000000000000000001 : Int) < 2 ^ 1000 := by decide +kernel
    refine ⟨_, rfl, _, rfl, _, _, rfl, rfl, ⟨by decide, by decide⟩, p, far / 20, n, rfl, by omega, Int.lt_trans (show far / 20 < 1000000000000000000000000000001 by omega) e1000, hb, by omega, fun r1 H1 a0 a1 d1 _ => ?_⟩
    refine ⟨_, _, rfl, rfl, ?_⟩
    refine ⟨_, rfl, _, rfl, _, _, rfl, rfl, ⟨by decide, by decide⟩, _, _, rfl, rfl, p, far / 2 + 1, n + 1, rfl, by omega, Int.lt_trans (show far / 2 + 1 < 1000000000000000000000000000001 by omega) e1000, d1.bag, by omega, fun r2 H2 b0 b1 d2 _ => ?_⟩
    refine ⟨_, rfl, _, _, rfl, rfl, ⟨by decide, by decide⟩, _, _, rfl, rfl, ?_⟩
    refine ⟨_, rfl, _, rfl, _, _, rfl, rfl, ⟨by decide, by decide⟩, _, _, rfl, rfl, p, far / 2 + 1, n + 2, rfl, by omega, Int.lt_trans (show far / 2 + 1 < 1000000000000000000000000000001 by omega) e1000, d2.bag, by omega, fun r3 H3 c0 c1 d3 _ => ?_⟩
    refine ⟨_, rfl, _, _, rfl, rfl, ⟨by decide, by decide⟩, _, _, rfl, rfl, by show 2 ≤ sizeLine; decide, fun tt ntt => ?_⟩
    have dA : Drew p H H3 (n + 3) := d1.then (d2.then d3)
    have dB := dA.new (same_new (o := .tup [.int (r2 - far / 2), .int (r3 - far / 4)]) ntt)
    refine ⟨tt, _, rfl, SqT.of upd_same, rfl, .int (r2 - far / 2), [.int (r3 - far / 4)], rfl, .int (r3 - far / 4), [], rfl, rfl, ?_⟩
    generalize upd H3 tt (.tup [.int (r2 - far / 2), .int (r3 - far / 4)]) = H4 at dB ⊢
    refine fun H5 f0 zs s5 nf0 hf0 T0 e0 => ?_
    have dC := dB.new s5
    refine ⟨.ref f0, rfl, f0, rfl, ⟨_, SqL.of hf0⟩, fun D nD => ?_⟩
    have l10 : zs.length = 10 := by
      have := congrArg List.length e0
      rw [List.length_map] at this
      exact this
    obtain ⟨l, el⟩ : ∃ l, l = r2 - far / 2 := ⟨_, rfl⟩
    obtain ⟨d, ed⟩ : ∃ d, d = r3 - far / 4 := ⟨_, rfl⟩
    obtain ⟨sc, es⟩ : ∃ sc, sc = 1 + r1 := ⟨_, rfl⟩
    have cor : ∀ q ∈ T10, CorB far (af l d sc q) := fun q hq => by
      have bq : ∀ q ∈ T10, (0 ≤ q.1 ∧ q.1 ≤ 8) ∧ -3 ≤ q.2 ∧ q.2 ≤ 3 := by decide
      obtain ⟨⟨x0, x1⟩, y0, y1⟩ := bq q hq
      have m1 : sc * q.1 ≤ sc * 8 := Int.mul_le_mul_of_nonneg_left x1 (by omega)
      have m0 : 0 ≤ sc * q.1 := Int.mul_nonneg (by omega) x0
      have m2 : sc * q.2 ≤ sc * 3 := Int.mul_le_mul_of_nonneg_left y1 (by omega)
      have m3 : sc * (-3) ≤ sc * q.2 := Int.mul_le_mul_of_nonneg_left y0 (by omega)
      unfold CorB af
      simp only
      generalize sc * q.1 = u at *
      generalize sc * q.2 = v at *
      omega
    have scb : sc.natAbs < 2 ^ 100 := by
      have w : (2 : Nat) ^ 100 = 1267650600228229401496703205376 := by decide
      rw [w]
      omega
    rw [← el, ← ed]
    refine lc_list (K := K) (a := f0) (xs := refs zs) (fun j H' => ∃ ns : Pts, Same H5 H' ∧ H' D = some (.lst (refs ns)) ∧ At K H' ns ∧ ns.map (·.2) = (T10.take j).map (af l d sc)) ⟨[], same_new nD, upd_same, fun q hq => (nomatch hq), rfl⟩ (fun j H' _ z => ?_) ?_ ?_
    · obtain ⟨_, z, _⟩ := z
      exact SqL.of (z _ _ hf0)
    · rintro j v H7 hv ⟨ns, s7, hD, T7, e7⟩
      obtain ⟨z, hz, rfl⟩ := refs_get hv
      have mz := List.mem_of_getElem? hz
      have jl : j < 10 := by rw [← l10]; exact (List.getElem?_eq_some_iff.mp hz).1
      have z10 : T10[j]? = some z.2 := by
        rw [← show zs.map (·.2) = T10 from e0, List.getElem?_map, hz]
        rfl
      have zm : z.2 ∈ T10 := List.mem_of_getElem? z10
      have bq : ∀ q ∈ T10, q.1.natAbs < 2 ^ 10 ∧ q.2.natAbs < 2 ^ 10 := by decide
      obtain ⟨x1, y1⟩ := bq z.2 zm
      refine ⟨z.1, _, rfl, (T0.same s7) z mz, rfl, .int z.2.1, [.int z.2.2], rfl, .int z.2.2, [], rfl, rfl, rfl, yesT ?_⟩
      refine ⟨_, rfl, _, rfl, _, rfl, _, _, rfl, rfl, (show CMulW (1 + r1) z.2.1 by rw [← es]; exact wide_mul scb x1 (by decide) (by decide) (by decide)), _, _, rfl, rfl, _, rfl, _, rfl, _, rfl, _, _, rfl, rfl, (show CMulW (1 + r1) z.2.2 by rw [← es]; exact wide_mul scb y1 (by decide) (by decide) (by decide)), _, _, rfl, rfl, by show 2 ≤ sizeLine; decide, fun u nu => ?_⟩
      obtain ⟨z1, z2, z3, z4⟩ := pts_push (q := (l + (1 + r1) * z.2.1, d + (1 + r1) * z.2.2)) s7 nD hD T7 nu
      have ln : ns.length = j := by
        have := congrArg List.length e7
        rw [List.length_map, List.length_map, List.length_take] at this
        have t10 : T10.length = 10 := rfl
        omega
      refine ⟨refs ns, z1, sz_push ln (by omega), ns ++ [(u, (l + (1 + r1) * z.2.1, d + (1 + r1) * z.2.2))], z2, z3, z4, ?_⟩
      rw [List.map_append, e7, take_succ_at z10, List.map_append, es]
      rfl
    · rintro H7 ⟨ns, s7, hD, T7, e7⟩
      rw [refs_len, l10] at e7
      have e8 : ns.map (·.2) = T10.map (af l d sc) := e7
      have dD := dC.new s7
      refine q H7 D ns dD (dC.free nD) (dC.list_ne nD) hD T7 ?_ (fun x hx => ?_) ?_
      · rw [e8]
        exact .inr (.inr ⟨by rw [List.length_map]; decide, out_ten (by omega)⟩)
      · have : x.2 ∈ T10.map (af l d sc) := by rw [← e8]; exact List.mem_map.mpr ⟨x, hx, rfl⟩
        obtain ⟨q, hq, e⟩ := List.mem_map.mp this
        rw [← e]
        exact cor q hq
      · have := congrArg List.length e8
        rw [List.length_map, List.length_map] at this
        exact this
end
end K12
set_option Elab.async false
set_option linter.all false
set_option maxRecDepth 100000
set_option maxHeartbeats 1000000
set_option exponentiation.threshold 20000
namespace K12
open PySem PySem.Spec PyProof.Rows L2 Fen
abbrev sPlo : Stmt := topS 64
abbrev nPlo : List Str := ["_law_pool_here", "_law_far", "_law_most", "_law_kind", "_law_low", "_law_spots", "_law_flat", "_law_turn_here", "_law_x", "_law_y", "_law_corners_here", "_law_shut", "_law_edge"]
theorem scPlo : FnScope nPlo ["_law_pool_here", "_law_far", "_law_most"] (defScope sPlo) := ⟨rfl, rfl, rfl, by decide +kernel, rfl, by decide +kernel, by decide +kernel⟩
def Good (far : Int) (ks : Pts) : Prop := Shape (ks.map (·.2)) ∧ (∀ q ∈ ks, CorB far q.2) ∧ 1 ≤ ks.length ∧ ks.length ≤ 10
/-- a drawn spot -/
def tPq : TE := fun σ H Q => ∃ kind x y : Int, σ[3]? = some (some (.int kind)) ∧ σ[8]? = some (some (.int x)) ∧ σ[9]? = some (some (.int y)) ∧ ∀ t (q : Hull.P), H t = none → (q = (y % 2, x) ∨ q = (x, y)) → Q (.ref t) (upd H t (.tup [.int q.1, .int q.2]))
/-- the ten corners, seldom -/
def TKo (K : PySem.W.Frag) : TS := fun D σ H => ∃ (p c : Addr) (far : Int) (n : Nat) (y2 y3 y4 y5 y6 y7 y8 y9 : Option V) (ks : Pts), σ = [some (.ref p), some (.int far), y2, y3, y4, y5, y6, y7, y8, y9, some (.ref c), none, none] ∧ BagAt H p n ∧ n + 150 ≤ 1000000 ∧ far ≤ 10 ^ 30 ∧ c ≠ p ∧ H c = some (.lst (refs ks)) ∧ At K H ks ∧ Good far ks ∧
  ∀ H' c' ks', Drew p H H' (n + 4) → c' ≠ p → H' c' = some (.lst (refs ks')) → At K H' ks' → Good far ks' → D.nx [some (.ref p), some (.int far), y2, y3, y4, y5, y6, y7, y8, y9, some (.ref c'), none, none] H'
section
variable {P : Program} {w : World} {K : PySem.W.Frag} {mg : Str → Option Value} {base : Heap}
def spPlo (K : PySem.W.Frag) : Sp := fun vs H Q _ => ∃ (p : Addr) (far most : Int) (n : Nat), vs = [.ref p, .int far, .int most] ∧ BagAt H p n ∧ n + 200 ≤ 1000000 ∧ 1 ≤ far ∧ far ≤ 10 ^ 30 ∧ 1 ≤ most ∧ most ≤ 30 ∧
  ∀ H' t c o b ks os, Drew p H H' (n + 40) → H t = none → c ≠ p → o ≠ p → FPl K H' t c o b ks os → IsF b (ks.map (·.2)) os → (∀ q ∈ ks, CorB far q.2) → Q (.ref t) H'
theorem ok_plo {f fD fC fT : Addr} {fd fdD fdC fdT : FuncData} {k : Nat} (F : Fun K "_law_plot" "_law_plot" sPlo f fd) (mi : mg "int" = none) (ml : mg "len" = none) (mr : mg "range" = none) (mls : mg "list" = none)
    (CD : Cal P w K mg base (k + 1) "_law_draw" fD fdD ["_law_pool_here", "_law_span"] spDrw) (CC : Cal P w K mg base (k + 1) "_law_corners" fC fdC ["_law_spots"] (spHul K)) (CT : Cal P w K mg base (k + 1) "_law_ten" fT fdT ["_law_pool_here", "_law_far"] (spTen K)) :
    FnOk P w K mg base CX0 (k + 1 + 1) f fd ["_law_pool_here", "_law_far", "_law_most"] (spPlo K) := by
  refine F.ok scPlo (fun vs H Q E h => ?_) (fun cdv A outer s H vs Q E hr h => ?_)
  · obtain ⟨p, far, most, n, rfl, _⟩ := h
    rfl
  · obtain ⟨p, far, most, n, rfl, hb, hn, f1, f2, m1, m2, q⟩ := h
    refine ⟨_, pss_cons (ps_par3 (i := 3) (j := 4) (l := 5) rfl scPlo.nd rfl rfl rfl (by decide) (by decide) (by decide) rfl rfl rfl (pa_cons (pe_cal CD hr (pa_cons (pv 0) (pa_cons pe_int pa_nil))) (pa_cons (pe_op op_add pe_int (pe_cal CD hr (pa_cons (pv 0) (pa_cons (pv 2) pa_nil)))) (pa_cons (pe_lst pa_nil) pa_nil))) (by rfl))
      (pss_cons (ps_set (i := 6) scPlo.nd rfl (.inl rfl) (pe_ix ix_list (pe_lst (pa_cons (pv 1) (pa_cons (pv 1) (pa_cons pe_int (pa_cons (pv 1) (pa_cons (pe_op op_add (pe_op op_fdiv (pv 1) pe_int) pe_int) pa_nil)))))) (pv 3) (fun _ _ => rfl)))
      (pss_cons (ps_for PassesOwn.never rfl (pi_range1 rfl mr (pa_cons (pe_ix ix_list (pe_lst (pa_cons pe_int (pa_cons pe_int (pa_cons pe_int (pa_cons pe_int (pa_cons pe_int pa_nil)))))) (pe_cal CD hr (pa_cons (pv 0) (pa_cons pe_int pa_nil))) (fun _ _ => rfl)) pa_nil)) (pg_name (i := 7) scPlo.nd rfl (.inl rfl))
        (pss_cons (ps_par (i := 8) (j := 9) rfl scPlo.nd rfl rfl (by decide) rfl rfl (pa_cons (pe_op op_sub (pe_cal CD hr (pa_cons (pv 0) (pa_cons (pe_op op_add (pe_op op_mul pe_int (pv 1)) pe_int) pa_nil))) (pv 1)) (pa_cons (pe_op op_sub (pe_cal CD hr (pa_cons (pv 0) (pa_cons (pe_op op_add (pe_op op_mul pe_int (pv 6)) pe_int) pa_nil))) (pv 6)) pa_nil)) (by rfl))
        (pss_one (ps_expr (pe_bm PySem.F.plainAttrs_list PySem.F.slot_list_append PySem.F.type_list_append mt_append (pv 5) (pa_cons (PE.of tPq (pe_ifExp (pt_cmpR op_eq (pv 3) pe_int (nomark _)) (pe_tup (pa_cons (pe_op op_mod (pe_callTy call_int1 (by rfl) mi (by decide +kernel) (pa_cons (pv 9) pa_nil)) pe_int) (pa_cons (pv 8) pa_nil))) (pe_tup (pa_cons (pv 8) (pa_cons (pv 9) pa_nil)))) ?tq) pa_nil))))))
      (pss_cons (ps_set (i := 10) scPlo.nd rfl (.inl rfl) (pe_cal CC hr (pa_cons (pv 5) pa_nil)))
      (pss_cons (PS.of (TKo K) (ps_if (PW.pt (pw_and (pt_cmpR op_ge (pv 1) pe_int (nomark _)) (pw_and1 (pt_cmpR op_eq (pe_cal CD hr (pa_cons (pv 0) (pa_cons pe_int pa_nil))) pe_int (nomark _))))) (pss_one (ps_set (i := 10) scPlo.nd rfl (.inl rfl) (pe_cal CT hr (pa_cons (pv 0) (pa_cons (pv 1) pa_nil))))) pss_nil) ?s0)
      (pss_cons (ps_setLc (i := 11) (own := [("_law_edge", 12)]) (g := gName 12) (tt := tTest (tOp rEq (tCall spDrw [] E0 (tCons (tVar 0) (tCons (tC (.int 2)) tNil))) (tC (.int 0)))) rfl scPlo.nd rfl rfl (sw_true rfl rfl rfl (by decide +kernel)) (pi_range1 rfl mr (pa_cons (pe_callB call_len_seq (by rfl) ml PySem.boot_len (pa_cons (pv 10) pa_nil)) pa_nil)) (blkOk_by (N := nPlo) (sc := defScope sPlo) (by decide +kernel)) (fun _ _ _ _ _ => pg_name (i := 12) scPlo.nd rfl (Or.inl rfl))
          (fun _ _ _ _ _ => pts_one (pt_cmpR op_eq (pe_cal CD hr (pa_cons (pv 0) (pa_cons pe_int pa_nil))) pe_int (nomark _))) (fun _ _ _ _ _ => pv 12))
      (pss_cons (ps_set (i := 11) scPlo.nd rfl (.inl rfl) (pe_ix ix_list (pe_lst (pa_cons (pe_lst pa_nil) (pa_cons (pe_listRg rfl (by rfl) mls (prg_1 (by rfl) mr (pe_callB call_len_seq (by rfl) ml PySem.boot_len (pa_cons (pv 10) pa_nil)))) (pa_cons (pv 11) pa_nil)))) (pe_cal CD hr (pa_cons (pv 0) (pa_cons pe_int pa_nil))) (fun _ _ => rfl)))
      (pss_one (ps_ret (pe_tup (pa_cons (pv 4) (pa_cons (pv 10) (pa_cons (pe_ifExp (pt_cmpR op_gt (pe_callB call_len_seq (by rfl) ml PySem.boot_len (pa_cons (pv 10) pa_nil)) pe_int (nomark _)) (pv 11) (pe_lst pa_nil)) pa_nil)))))))))))), ?_⟩
    case tq =>
      rintro σ H Q ⟨kind, x, y, e3, e8, e9, q⟩
      refine ⟨.int kind, e3, rfl, _, rfl, ite2 (fun e => ?_) (fun e => ?_)⟩
      · exact ⟨.int y, e9, .inl ⟨y, rfl, _, _, rfl, rfl, (by decide : (0 : Int) < 2), .int x, e8, by show 2 ≤ sizeLine; decide, fun t nt => q t (y % 2, x) nt (.inl rfl)⟩⟩
      · exact ⟨.int x, e8, .int y, e9, by show 2 ≤ sizeLine; decide, fun t nt => q t (x, y) nt (.inr rfl)⟩
    case s0 =>
      rintro D σ H ⟨p, c, far, n, y2, y3, y4, y5, y6, y7, y8, y9, ks, rfl, hb, hn, f2, cp, hc, T, G, go⟩
      refine ⟨_, rfl, _, _, rfl, rfl, _, rfl, ite2 (fun e => ?_) (fun e => ?_)⟩
      · have f20 : 20 ≤ far := of_decide_eq_true e
        refine ⟨_, rfl, p, 6, n, rfl, by decide, by decide +kernel, hb, by omega, fun r H1 r0 r1 d1 o1 => ⟨rfl, _, rfl, ite2 (fun e2 => ?_) (fun e2 => ?_)⟩⟩
        · exact ⟨_, rfl, _, rfl, p, far, n + 1, rfl, d1.bag, by omega, f20, f2, fun H2 f ks' d2 nf fp hf T' sh co len => go H2 f ks' (d1.then d2) fp hf T' ⟨sh, co, by omega, by omega⟩⟩
        · exact go H1 c ks ⟨d1.x, d1.bag.more (by omega)⟩ cp (by rw [o1 c cp]; exact hc) (At.drew T hb d1) G
      · exact iteF (go H c ks ⟨fun _ _ _ e => e, hb.more (by omega)⟩ cp hc T G)
    have e30 : (10 : Int) ^ 30 = 1000000000000000000000000000000 := by decide
    have f2' := f2
    rw [e30] at f2'
    have e1000 : (3000000000000000000000000000001 : Int) < 2 ^ 1000 := by decide +kernel
    refine ⟨_, rfl, p, 5, n, rfl, by decide, by decide +kernel, hb, by omega, fun kind H1 a0 a1 d1 o1 => ?_⟩
    refine ⟨_, rfl, _, rfl, p, most, n + 1, rfl, by omega, Int.lt_trans (show most < 3000000000000000000000000000001 by omega) e1000, d1.bag, by omega, fun lw H2 b0 b1 d2 o2 => ⟨_, _, rfl, rfl, by show 0 ≤ sizeLine; decide, fun g ng => ⟨_, _, _, rfl, ?_⟩⟩⟩
    have dA : Drew p H H2 (n + 2) := d1.then d2
    have gp := dA.list_ne ng
    have gH := dA.free ng
    have dB := dA.new (same_new (o := .lst []) ng)
    have hg0 : (upd H2 g (.lst [])) g = some (.lst []) := upd_same
    generalize upd H2 g (.lst []) = H3 at dB hg0 ⊢
    refine ⟨_, rfl, _, rfl, _, rfl, _, rfl, _, _, rfl, rfl, ⟨by decide, by decide⟩, _, _, rfl, rfl, by show 5 ≤ sizeLine; decide, fun l5 nl5 => ?_⟩
    have c5 := same_new (o := .lst [.int far, .int far, .int 1, .int far, .int (far / 3 + 1)]) nl5
    obtain ⟨fl, hfl, fl1, fl2⟩ : ∃ fl : Int, atI [V.int far, .int far, .int 1, .int far, .int (far / 3 + 1)] kind = some (.int fl) ∧ 1 ≤ fl ∧ fl ≤ far := by
      have : kind = 0 ∨ kind = 1 ∨ kind = 2 ∨ kind = 3 ∨ kind = 4 := by omega
      rcases this with rfl | rfl | rfl | rfl | rfl
      · exact ⟨far, rfl, by omega, by omega⟩
      · exact ⟨far, rfl, by omega, by omega⟩
      · exact ⟨1, rfl, by omega, by omega⟩
      · exact ⟨far, rfl, by omega, by omega⟩
      · exact ⟨far / 3 + 1, rfl, by omega, by omega⟩
    refine ⟨_, rfl, l5, _, kind, .int fl, rfl, rfl, SqL.of upd_same, hfl, ?_⟩
    have dC := dB.new c5
    have hg5 := c5 _ _ hg0
    generalize upd H3 l5 (.lst [.int far, .int far, .int 1, .int far, .int (far / 3 + 1)]) = H4 at dC hg5 ⊢
    refine ⟨by show 5 ≤ sizeLine; decide, fun l6 nl6 => ?_⟩
    have c6 := same_new (o := .lst [.int 1, .int 2, .int 3, .int 4, .int 8]) nl6
    have dD := dC.new c6
    have hg6 := c6 _ _ hg5
    have l6p := dC.list_ne nl6
    have g6 : (upd H4 l6 (.lst [.int 1, .int 2, .int 3, .int 4, .int 8])) l6 = some (.lst [.int 1, .int 2, .int 3, .int 4, .int 8]) := upd_same
    generalize upd H4 l6 (.lst [.int 1, .int 2, .int 3, .int 4, .int 8]) = H5 at dD hg6 g6 ⊢
    refine ⟨_, rfl, p, 5, n + 2, rfl, by decide, by decide +kernel, dD.bag, by omega, fun r H6 r0 r1 d6 o6 => ?_⟩
    obtain ⟨m, hm, mm1, mm2⟩ : ∃ m : Nat, atI [V.int 1, .int 2, .int 3, .int 4, .int 8] r = some (.int (m : Nat)) ∧ 1 ≤ m ∧ m ≤ 8 := by
      have : r = 0 ∨ r = 1 ∨ r = 2 ∨ r = 3 ∨ r = 4 := by omega
      rcases this with rfl | rfl | rfl | rfl | rfl
      · exact ⟨1, rfl, by omega, by omega⟩
      · exact ⟨2, rfl, by omega, by omega⟩
      · exact ⟨3, rfl, by omega, by omega⟩
      · exact ⟨4, rfl, by omega, by omega⟩
      · exact ⟨8, rfl, by omega, by omega⟩
    have dE : Drew p H H6 (n + 3) := dD.then d6
    have hg7 : H6 g = some (.lst []) := by rw [o6 g gp]; exact hg6
    refine ⟨l6, _, r, .int (m : Nat), rfl, rfl, SqL.of (by rw [o6 l6 l6p]; exact g6), hm, ?_⟩
    refine ⟨m, rfl, by omega, by omega, ?_⟩
    refine for_range (lo := 0) (fun i σ H' => ∃ (ks : Pts) (y7 y8 y9 : Option V), σ = [some (.ref p), some (.int far), some (.int most), some (.int kind), some (.int (1 + lw)), some (.ref g), some (.int fl), y7, y8, y9, none, none, none] ∧ Drew p H H' (n + 3 + 2 * i) ∧ H' g = some (.lst (refs ks)) ∧ At K H' ks ∧ (∀ q ∈ ks, CorB far q.2) ∧ ks.length = i) ?_ ?_ ?_
    · exact ⟨[], _, _, _, rfl, dE, hg7, fun q hq => (nomatch hq), fun q hq => (nomatch hq), rfl⟩
    · rintro i σ H' hi ⟨ks, y7, y8, y9, rfl, dr, hg, hT, hC, lk⟩
      have hi2 : i < 8 := by omega
      refine ⟨_, rfl, _, rfl, _, _, rfl, rfl, .inl ⟨by decide, by decide⟩, _, _, rfl, rfl, p, 2 * far + 1, _, rfl, by omega, Int.lt_trans (show 2 * far + 1 < 3000000000000000000000000000001 by omega) e1000, dr.bag, by omega, fun x H7 x0 x1 d7 o7 => ?_⟩
      refine ⟨_, rfl, _, _, rfl, rfl, ?_⟩
      refine ⟨_, rfl, _, rfl, _, _, rfl, rfl, .inl ⟨by decide, by decide⟩, _, _, rfl, rfl, p, 2 * fl + 1, _, rfl, by omega, Int.lt_trans (show 2 * fl + 1 < 3000000000000000000000000000001 by omega) e1000, d7.bag, by omega, fun y H8 y0 y1 d8 o8 => ?_⟩
      refine ⟨_, rfl, _, _, rfl, rfl, _, _, rfl, ?_⟩
      have g8 : H8 g = some (.lst (refs ks)) := by rw [o8 g gp, o7 g gp]; exact hg
      have T8 : At K H8 ks := At.drew (At.drew hT dr.bag d7) d7.bag d8
      have dr8 : Drew p H H8 (n + 3 + 2 * i + 2) := dr.then (d7.then d8)
      refine ⟨.ref g, rfl, .inl ⟨rfl, _, SqL.of g8⟩, kind, x - far, y - fl, rfl, rfl, rfl, fun t q' nt hq => ?_⟩
      have hq' : CorB far q' := by
        unfold CorB
        rcases hq with rfl | rfl <;> simp only <;> omega
      have g9 : (upd H8 t (.tup [.int q'.1, .int q'.2])) g = some (.lst (refs ks)) := (same_new nt) _ _ g8
      have tg : t ≠ g := fun z => by
        rw [z, g8] at nt
        cases nt
      have s9 := same_new (o := .tup [.int q'.1, .int q'.2]) nt
      have T9 := T8.same s9
      refine ⟨g, refs ks, .ref t, rfl, rfl, g9, by rw [refs_len]; exact Nat.lt_of_lt_of_le (show ks.length < 21 by omega) (by decide), ?_⟩
      refine ⟨ks ++ [(t, q')], _, _, _, rfl, ⟨fun b o bn e => ?_, ?_⟩, ?_, fun q hq => ?_, fun q hq => ?_, ?_⟩
      · rw [upd_ne (ne_of_none e gH)]
        exact (dr8.new s9).x b o bn e
      · obtain ⟨d0, m0, c0, e0, r0⟩ := ((dr8.new s9).bag.more (show n + 3 + 2 * i + 2 ≤ n + 3 + 2 * (i + 1) by omega))
        exact ⟨d0, m0, c0, (upd_ne (Ne.symm gp)).trans e0, r0⟩
      · rw [upd_same]
        simp [refs]
      · rcases List.mem_append.mp hq with z | z
        · exact L2.SqT.put (T9 q z) g9 SameX.put
        · rw [List.mem_singleton.mp z]
          refine SqT.of ?_
          rw [upd_ne tg]
          exact upd_same
      · rcases List.mem_append.mp hq with z | z
        · exact hC q z
        · rw [List.mem_singleton.mp z]
          exact hq'
      · rw [List.length_append, List.length_singleton, lk]
    rintro σ H7 ⟨ks, y7, y8, y9, rfl, dr, hg, hT, hC, lk⟩
    rw [show ((m : Nat) : Int).toNat = m from Int.toNat_natCast m] at dr lk
    refine ⟨_, rfl, g, ks, rfl, SqL.of hg, hT, fun x hx => (corb_cor f2 (hC x hx)).sm, by omega, fun H8 c hs s s8 nc hc sub asc mem e2 => ?_⟩
    have cp := dr.list_ne nc
    have dF := dr.new s8
    have la : 1 ≤ s.length := by
      obtain ⟨x, hx⟩ : ∃ x, x ∈ ks := List.exists_mem_of_length_pos (by omega)
      exact List.length_pos_of_mem ((mem x.2).mpr (List.mem_map.mpr ⟨x, hx, rfl⟩))
    obtain ⟨shp, lh1, hsub⟩ := shape_hul asc la
    have lh2 : hs.length ≤ 8 := by
      have := hul_len asc la (fun x hx => (mem x).mp hx)
      rw [← e2, List.length_map, List.length_map] at this
      omega
    rw [← e2] at shp lh1
    rw [List.length_map] at lh1
    refine ⟨p, c, far, n + 19, _, _, _, _, _, _, _, _, hs, rfl, dF.bag.more (by omega), by omega, f2, cp, hc, (hT.same s8).sub sub, ⟨shp, fun x hx => hC x (sub x hx), lh1, by omega⟩, fun H9 c' zs d9 cp' hc' T' G' => ?_⟩
    have dG : Drew p H H9 (n + 23) := dF.then d9
    obtain ⟨shp', co', lz1, lz2⟩ := G'
    refine ⟨.ref c', rfl, c', _, rfl, .inl (SqL.of hc'), _, rfl, by rw [refs_len]; omega, by rw [refs_len]; omega, fun D nD => ?_⟩
    rw [refs_len]
    have Dp := dG.list_ne nD
    have DH := dG.free nD
    have Dc : D ≠ c' := fun z => by rw [z, hc'] at nD; cases nD
    refine lc_range (lo := 0) (n := ((zs.length : Nat) : Int).toNat) (fun j H' => ∃ os : List Int, Drew p H H' (n + 23 + j) ∧ H' D = some (.lst (os.map V.int)) ∧ H' c' = some (.lst (refs zs)) ∧ At K H' zs ∧ os.Pairwise (· < ·) ∧ (∀ o ∈ os, 0 ≤ o ∧ o < j) ∧ os.length ≤ j) ⟨[], (dG.new (same_new nD)), upd_same, (same_new nD) _ _ hc', T'.same (same_new nD), List.Pairwise.nil, (fun o ho => nomatch ho), Nat.le_refl _⟩ ?_ ?_
    · rintro j H5 hj ⟨os, d5, hD, hc5, T5, up, inn, lo⟩
      have hj2 : j < 10 := by omega
      refine ⟨rfl, _, rfl, p, 2, _, rfl, by decide, by decide +kernel, d5.bag, by omega, fun r H6 r0 r1 d6 o6 => ⟨rfl, _, rfl, ?_⟩⟩
      have hD6 : H6 D = some (.lst (os.map V.int)) := by rw [o6 D Dp]; exact hD
      have hc6 : H6 c' = some (.lst (refs zs)) := by rw [o6 c' cp']; exact hc5
      have T6 := At.drew T5 d5.bag d6
      have d7 := d5.then d6
      refine ite2 (fun _ => ?_) (fun _ => ?_)
      · refine ⟨_, rfl, _, hD6, by rw [List.length_map]; exact Nat.lt_of_lt_of_le (show os.length < 11 by omega) (by decide), os ++ [(j : Int)], ?_, ?_, (upd_ne (Ne.symm Dc)).trans hc6, At.put T6 hD6 SameX.put, ?_, fun o ho => ?_, by rw [List.length_append]; simpa using lo⟩
        · exact (d7.put DH Dp) |> fun d => ⟨d.x, d.bag.more (by omega)⟩
        · rw [upd_same, List.map_append, Int.zero_add]
          rfl
        · rw [List.pairwise_append]
          refine ⟨up, List.pairwise_singleton _ _, fun x hx y hy => ?_⟩
          rw [List.mem_singleton.mp hy]
          exact (inn x hx).2
        · rcases List.mem_append.mp ho with z | z
          · have := inn o z
            omega
          · rw [List.mem_singleton.mp z]
            omega
      · exact ⟨os, ⟨d7.x, d7.bag.more (by omega)⟩, hD6, hc6, T6, up, fun o ho => (by have := inn o ho; omega), by omega⟩
    rintro H5 ⟨os, d5, hD, hc5, T5, up, inn, lo⟩
    have ez : ((zs.length : Nat) : Int).toNat = zs.length := Int.toNat_natCast _
    rw [ez] at d5 inn lo
    refine ⟨by show 0 ≤ sizeLine; decide, fun e0 ne0 => ?_⟩
    have k1 := same_new (o := .lst []) ne0
    have ge : (upd H5 e0 (.lst [])) e0 = some (.lst []) := upd_same
    have e0p := d5.list_ne ne0
    have d6 := d5.new k1
    generalize upd H5 e0 (.lst []) = H6 at k1 ge d6 ⊢
    refine ⟨.ref c', rfl, c', _, rfl, .inl (SqL.of (k1 _ _ hc5)), _, rfl, RgOk.of_le (by decide) (by rw [refs_len]; omega) (by decide) (by rw [refs_len]; omega), fun o no => ?_⟩
    rw [refs_len, rgV_rI]
    have k2 := same_new (o := .lst ((Fen.rI zs.length).map V.int)) no
    have go : (upd H6 o (.lst ((Fen.rI zs.length).map V.int))) o = some (.lst ((Fen.rI zs.length).map V.int)) := upd_same
    have op := d6.list_ne no
    have d7 := d6.new k2
    generalize upd H6 o (.lst ((Fen.rI zs.length).map V.int)) = H7' at k2 go d7 ⊢
    refine ⟨_, rfl, by show 3 ≤ sizeLine; decide, fun l3 nl3 => ?_⟩
    have k3 := same_new (o := .lst [.ref e0, .ref o, .ref D]) nl3
    have gl : (upd H7' l3 (.lst [.ref e0, .ref o, .ref D])) l3 = some (.lst [.ref e0, .ref o, .ref D]) := upd_same
    have l3p := d7.list_ne nl3
    have d8 := d7.new k3
    generalize upd H7' l3 (.lst [.ref e0, .ref o, .ref D]) = H8' at k3 gl d8 ⊢
    refine ⟨_, rfl, p, 3, _, rfl, by decide, by decide +kernel, d8.bag, by omega, fun r H9' r0 r1 dX oX => ?_⟩
    have keep : ∀ {a : Addr} {u : HO}, a ≠ p → H8' a = some u → H9' a = some u := fun {a u} na e => by rw [oX a na]; exact e
    have kk := (k1.trans k2).trans k3
    obtain ⟨oo, os', hr', goo, oop, up', inn'⟩ : ∃ (oo : Addr) (os' : List Int), atI [V.ref e0, .ref o, .ref D] r = some (.ref oo) ∧ H9' oo = some (.lst (os'.map V.int)) ∧ oo ≠ p ∧ os'.Pairwise (· < ·) ∧ ∀ x ∈ os', 0 ≤ x ∧ x < zs.length := by
      have : r = 0 ∨ r = 1 ∨ r = 2 := by omega
      rcases this with rfl | rfl | rfl
      · exact ⟨e0, [], rfl, keep e0p ((k2.trans k3) _ _ ge), e0p, List.Pairwise.nil, fun x hx => nomatch hx⟩
      · exact ⟨o, Fen.rI zs.length, rfl, keep op (k3 _ _ go), op, rI_up _, fun x hx => rI_in hx⟩
      · exact ⟨D, os, rfl, keep Dp (kk _ _ hD), Dp, up, inn⟩
    refine ⟨l3, _, r, .ref oo, rfl, rfl, SqL.of (keep l3p gl), hr', ?_⟩
    have hcX : H9' c' = some (.lst (refs zs)) := keep cp' (kk _ _ hc5)
    have TX : At K H9' zs := At.drew (T5.same kk) d8.bag dX
    have dY : Drew p H H9' (n + 34) := d8.then dX |> fun d => ⟨d.x, d.bag.more (by omega)⟩
    have eT : tot (zs.map (·.2)) = if zs.length = 1 then 0 else zs.length := by
      unfold tot
      rw [List.length_map]
    have isf : ∀ os : List Int, os.Pairwise (· < ·) → (∀ o ∈ os, 0 ≤ o ∧ o < tot (zs.map (·.2))) → IsF (1 + lw) (zs.map (·.2)) os := fun os u1 u2 => ⟨by omega, by omega, by rw [List.length_map]; exact lz1, by rw [List.length_map]; exact lz2, fun x hx => by
      obtain ⟨y, hy, rfl⟩ := List.mem_map.mp hx
      exact corb_cor f2 (co' y hy), shp', u1, u2⟩
    refine ⟨_, rfl, .ref c', rfl, .ref c', rfl, c', _, rfl, .inl (SqL.of hcX), _, _, rfl, rfl, _, rfl, ?_⟩
    rw [refs_len]
    by_cases l1 : 1 < zs.length
    · rw [decide_eq_true (show (1 : Int) < (zs.length : Nat) by omega)]
      refine (if_pos rfl).mpr ⟨.ref oo, rfl, by show 3 ≤ sizeLine; decide, fun t nt => ?_⟩
      have sT := same_new (o := .tup [.int (1 + lw), .ref c', .ref oo]) nt
      have dT := dY.new sT
      exact q _ t c' oo (1 + lw) zs os' ⟨dT.x, dT.bag.more (by omega)⟩ (dY.free nt) cp' oop ⟨upd_same, sT _ _ hcX, TX.same sT, sT _ _ goo⟩ (isf os' up' fun x hx => by rw [eT, if_neg (by omega)]; exact inn' x hx) co'
    · rw [decide_eq_false (show ¬ (1 : Int) < (zs.length : Nat) by omega)]
      refine (if_neg (by decide)).mpr ⟨by show 0 ≤ sizeLine; decide, fun eo neo => ⟨by show 3 ≤ sizeLine; decide, fun t nt => ?_⟩⟩
      have sT := (same_new (o := .lst []) neo).trans (same_new (o := .tup [.int (1 + lw), .ref c', .ref eo]) nt)
      have dT := dY.new sT
      exact q _ t c' eo (1 + lw) zs [] ⟨dT.x, dT.bag.more (by omega)⟩ ((dY.new (same_new neo)).free nt) cp' (dY.list_ne neo) ⟨upd_same, sT _ _ hcX, TX.same sT, (same_new nt) _ _ upd_same⟩ (isf [] List.Pairwise.nil fun x hx => nomatch hx) co'
end
end K12
set_option Elab.async false
set_option linter.all false
set_option maxRecDepth 100000
set_option maxHeartbeats 1000000
set_option exponentiation.threshold 20000
namespace K12
open PySem PySem.Spec PyProof.Rows L2 Fen
abbrev sHas : Stmt := topS 65
abbrev nHas : List Str := ["_law_plot_here", "_law_often", "_law_spot", "_law_low", "_law_corners_here", "_law_shut", "_law_place", "_law_grown", "_law_edge", "_law_one", "_law_turned", "_law_x", "_law_y"]
theorem scHas : FnScope nHas ["_law_plot_here", "_law_often", "_law_spot"] (defScope sHas) := ⟨rfl, rfl, rfl, by decide +kernel, rfl, by decide +kernel, by decide +kernel⟩
theorem lex_pair (p q : Hull.P) : Ob.lexAt (fun j => decide (([p.1, p.2] : List Int).getD j 0 = ([q.1, q.2] : List Int).getD j 0)) (fun j => decide (([p.1, p.2] : List Int).getD j 0 ≤ ([q.1, q.2] : List Int).getD j 0)) (decide (([p.1, p.2] : List Int).length ≤ ([q.1, q.2] : List Int).length)) 0 (min ([p.1, p.2] : List Int).length ([q.1, q.2] : List Int).length) = true ↔ ¬ Hull.Lt q p := by
  obtain ⟨a, b⟩ := p
  obtain ⟨c, d⟩ := q
  show Ob.lexAt _ _ (decide (2 ≤ 2)) 0 2 = true ↔ _
  simp only [Ob.lexAt]
  unfold Hull.Lt
  simp only
  by_cases h1 : a = c
  · subst h1
    by_cases h2 : b = d
    · subst h2
      simp
    · simp [h2]
  · simp [h1]
    omega
section
variable {P : Program} {w : World} {K : PySem.W.Frag} {mg : Str → Option Value} {base : Heap}
def spHas (K : PySem.W.Frag) : Sp := fun vs H Q _ => ∃ (t c o a : Addr) (b n : Int) (ks : Pts) (os : List Int) (px row : Int), vs = [.ref t, .int n, .ref a] ∧ FAt K H t c o b ks os ∧ IsF b (ks.map (·.2)) os ∧ 1 ≤ n ∧ n ≤ 10 ^ 30 ∧ SqT K H a [.int px, .int row] ∧ px.natAbs < 2 ^ 700 ∧ row.natAbs < 2 ^ 700 ∧
  ∀ H', Same H H' → Q (.bl (B (Geo.Bel b n (ks.map (·.2)) os px row))) H'
theorem ok_has {f fT : Addr} {fd fdT : FuncData} {k : Nat} (F : Fun K "_law_has" "_law_has" sHas f fd) (T : Nms mg) (CT : Cal P w K mg base (k + 1) "_law_turn" fT fdT ["_law_one", "_law_two", "_law_three"] (spTr K)) :
    FnOk P w K mg base CX0 (k + 1 + 1) f fd ["_law_plot_here", "_law_often", "_law_spot"] (spHas K) := by
  refine F.ok scHas (fun vs H Q E h => ?_) (fun cdv A outer s H vs Q E hr h => ?_)
  · obtain ⟨t, c, o, a, b, n, ks, os, px, row, rfl, _⟩ := h
    rfl
  · obtain ⟨t, c, o, a, b, n, ks, os, px, row, rfl, fa, isf, n1, n2, hT, xb, rb, q⟩ := h
    have hu1 : (A.deeper (envOfC "_law_has" (defScope sHas) s.heap.objs.size f cdv)).units < cLine := by have := hr.un; omega
    have hu65 : (A.deeper (envOfC "_law_has" (defScope sHas) s.heap.objs.size f cdv)).units + 65 < cLine := by have := hr.un; omega
    refine ⟨_, pss_cons (ps_asg (pv 0) (pg_tup rfl (pgs_cons (pg_name (i := 3) scHas.nd rfl (.inl rfl)) (pgs_cons (pg_name (i := 4) scHas.nd rfl (.inl rfl)) (pgs_cons (pg_name (i := 5) scHas.nd rfl (.inl rfl)) pgs_nil)))))
      (pss_cons (ps_set (i := 6) scHas.nd rfl (.inl rfl) (pe_tup (pa_cons (pe_op op_mulW (pv 3) (pe_ix ix_tup (pv 2) pe_int (fun _ _ => rfl))) (pa_cons (pe_op op_mulW (pv 3) (pe_ix ix_tup (pv 2) pe_int (fun _ _ => rfl))) pa_nil))))
      (pss_cons (ps_set (i := 7) scHas.nd rfl (.inr rfl) (pe_lc (own := [("_law_x", 11), ("_law_y", 12)]) (g := gTup K 2 (gCons (gName 11) (gCons (gName 12) gNil))) (tt := tYes) rfl scHas.nd (pi_list (pv 4)) (blkOk_by (N := nHas) (sc := defScope sHas) (by decide +kernel)) (fun _ _ _ _ _ => pg_tup rfl (pgs_cons (pg_name (i := 11) scHas.nd rfl (Or.inl rfl)) (pgs_cons (pg_name (i := 12) scHas.nd rfl (Or.inl rfl)) pgs_nil))) (fun _ _ _ _ _ => pts_nil)
          (fun _ _ _ _ _ => pe_tup (pa_cons (pe_op op_mulW (pv 1) (pv 11)) (pa_cons (pe_op op_mulW (pv 1) (pv 12)) pa_nil)))))
      (pss_cons (ps_if (pt_cmpR op_lt (pe_callB call_len_seq (by rfl) T.mlen PySem.boot_len (pa_cons (pv 7) pa_nil)) pe_int (nomark _))
        (pss_cons (ps_if (PW.pt (pw_or (pt_cmpR op_ne (pe_cal CT hr (pa_cons (pe_ix ix_list (pv 7) pe_int (fun _ _ => rfl)) (pa_cons (pe_ix ix_list (pv 7) (pe_un un_neg pe_int) (fun _ _ => rfl)) (pa_cons (pv 6) pa_nil)))) pe_int (nomark _))
            (pw_or1 (pt_not (pt_chain (op_leT hu1) (op_leT hu1) (pe_ix ix_list (pv 7) pe_int (fun _ _ => rfl)) (pv 6) (pe_ix ix_list (pv 7) (pe_un un_neg pe_int) (fun _ _ => rfl))))))) (pss_one (ps_ret pe_bl)) pss_nil)
        (pss_one (ps_ret (pe_cmpR (op_notInD hu65) (pv 6) (pe_lc (own := [("_law_edge", 8)]) (g := gName 8) (tt := tYes) (te := tOp (rIxL K) (tVar 7) (tVar 8)) rfl scHas.nd (pi_list (pv 5)) (blkOk_by (N := nHas) (sc := defScope sHas) (by decide +kernel)) (fun _ _ _ _ _ => pg_name (i := 8) scHas.nd rfl (Or.inl rfl)) (fun _ _ _ _ _ => pts_nil)
            (fun _ _ _ _ _ => pe_ix ix_list (pv 7) (pv 8) (fun _ _ => rfl))) (by rfl))))) pss_nil)
      (pss_cons (ps_for PassesOwn.never rfl (pi_enum (by rfl) T.menum (pa_cons (pv 7) pa_nil)) (pg_tup rfl (pgs_cons (pg_name (i := 8) scHas.nd rfl (.inl rfl)) (pgs_cons (pg_name (i := 9) scHas.nd rfl (.inl rfl)) pgs_nil)))
        (pss_cons (ps_set (i := 10) scHas.nd rfl (.inl rfl) (pe_cal CT hr (pa_cons (pv 9) (pa_cons (pe_ix ix_list (pv 7) (pe_op op_mod (pe_callTy call_int1 (by rfl) T.mint (by decide +kernel) (pa_cons (pe_op op_add (pv 8) pe_int) pa_nil)) (pe_callB call_len_seq (by rfl) T.mlen PySem.boot_len (pa_cons (pv 7) pa_nil))) (fun _ _ => rfl)) (pa_cons (pv 6) pa_nil)))))
        (pss_one (ps_if (PW.pt (pw_or (pt_cmpR op_lt (pv 10) pe_int (nomark _)) (pw_or1 (PW.pt (pw_and (pt_cmpR op_eq (pv 10) pe_int (nomark _)) (pw_and1 (pt_cmpR op_in_seq (pv 8) (pv 5) (by rfl)))))))) (pss_one (ps_ret pe_bl)) pss_nil))))
      (pss_one (ps_ret pe_bl)))))), ?_⟩
    have b1 := isf.b1
    have b2 := isf.b2
    have nb := n_small n1 n2
    have np : 0 < n := by omega
    have bb : b.natAbs < 2 ^ 10 := Nat.lt_of_le_of_lt (show b.natAbs ≤ 30 by omega) (by decide)
    have l1 := isf.l1
    have l2 := isf.l2
    rw [List.length_map] at l1 l2
    refine ⟨.ref t, rfl, t, _, rfl, fa.tup, rfl, .int b, [.ref c, .ref o], rfl, .ref c, [.ref o], rfl, .ref o, [], rfl, rfl, ?_⟩
    refine ⟨_, rfl, .ref a, rfl, a, _, 0, .int px, rfl, rfl, hT, atI_nat (j := 0) rfl, _, _, rfl, rfl, wide_mul bb xb (by decide) (by decide) (by decide), _, rfl, .ref a, rfl, a, _, 1, .int row, rfl, rfl, hT, atI_nat (j := 1) rfl, _, _, rfl, rfl, wide_mul bb rb (by decide) (by decide) (by decide), by show 2 ≤ sizeLine; decide, fun pl npl => ?_⟩
    have s1 := same_new (o := .tup [.int (b * px), .int (b * row)]) npl
    have pT1 : SqT K (upd H pl (.tup [.int (b * px), .int (b * row)])) pl [.int (b * px), .int (b * row)] := SqT.of upd_same
    generalize upd H pl (.tup [.int (b * px), .int (b * row)]) = H1 at s1 pT1 ⊢
    have f1 := fa.same s1
    have swP : Sw (b * px, b * row) := ⟨Nat.lt_trans (wide_lt bb xb) (by decide), Nat.lt_trans (wide_lt bb rb) (by decide)⟩
    have swG : ∀ x ∈ ks, Sw (Geo.gr n x.2) := fun x hx => by
      obtain ⟨sx, sy⟩ := cor_small (isf.co x.2 (List.mem_map.mpr ⟨x, hx, rfl⟩))
      exact ⟨Nat.lt_trans (wide_lt nb sx) (by decide), Nat.lt_trans (wide_lt nb sy) (by decide)⟩
    refine ⟨.ref c, rfl, c, rfl, ⟨_, f1.cor⟩, fun D nD => ?_⟩
    refine lc_list (K := K) (a := c) (xs := refs ks) (fun j H' => ∃ gs : Pts, Same H1 H' ∧ H' D = some (.lst (refs gs)) ∧ At K H' gs ∧ gs.map (·.2) = (ks.take j).map (fun x => Geo.gr n x.2)) ⟨[], same_new nD, upd_same, fun q hq => (nomatch hq), rfl⟩ (fun j H' _ z => ?_) ?_ ?_
    · obtain ⟨_, z, _⟩ := z
      exact z.seq f1.cor
    · rintro j v H7 hv ⟨gs, s7, hD, T7, e7⟩
      obtain ⟨z, hz, rfl⟩ := refs_get hv
      have mz := List.mem_of_getElem? hz
      have jl : j < ks.length := (List.getElem?_eq_some_iff.mp hz).1
      obtain ⟨sx, sy⟩ := cor_small (isf.co z.2 (List.mem_map.mpr ⟨z, mz, rfl⟩))
      refine ⟨z.1, _, rfl, (f1.pts.same s7) z mz, rfl, .int z.2.1, [.int z.2.2], rfl, .int z.2.2, [], rfl, rfl, rfl, yesT ?_⟩
      refine ⟨_, rfl, _, rfl, _, _, rfl, rfl, wide_mul nb sx (by decide) (by decide) (by decide), _, rfl, _, rfl, _, _, rfl, rfl, wide_mul nb sy (by decide) (by decide) (by decide), by show 2 ≤ sizeLine; decide, fun u nu => ?_⟩
      obtain ⟨z1, z2, z3, z4⟩ := pts_push (q := (n * z.2.1, n * z.2.2)) s7 nD hD T7 nu
      have ln : gs.length = j := by
        have := congrArg List.length e7
        rw [List.length_map, List.length_map, List.length_take] at this
        omega
      refine ⟨refs gs, z1, sz_push ln (by omega), gs ++ [(u, (n * z.2.1, n * z.2.2))], z2, z3, z4, ?_⟩
      rw [List.map_append, e7, take_succ_at hz, List.map_append]
      rfl
    rintro H7 ⟨gs, s7, hD, T7, e7⟩
    rw [refs_len, List.take_length] at e7
    have lg : gs.length = ks.length := by
      have := congrArg List.length e7
      rw [List.length_map, List.length_map] at this
      exact this
    have s17 := s1.trans s7
    have f7 := f1.same s7
    have pT7 := s7.seqT pT1
    have gAt : ∀ {i : Nat} {g : Addr × Hull.P}, gs[i]? = some g → ∃ x, ks[i]? = some x ∧ g.2 = Geo.gr n x.2 := fun {i g} h => by
      have e := congrArg (fun l => l[i]?) e7
      simp only [List.getElem?_map, h, Option.map_some] at e
      obtain ⟨x, hx, ex⟩ := Option.map_eq_some_iff.mp e.symm
      exact ⟨x, hx, ex.symm⟩
    have gSw : ∀ {i : Nat} {g : Addr × Hull.P}, gs[i]? = some g → Sw g.2 := fun {i g} h => by
      obtain ⟨x, hx, e⟩ := gAt h
      rw [e]
      exact swG x (List.mem_of_getElem? hx)
    have cAt : ∀ {i : Nat} {x : Addr × Hull.P}, ks[i]? = some x → (ks.map (·.2)).getD i (0, 0) = x.2 := fun {i x} h => getD_snd h
    have yes : ∀ H', Same H H' → Geo.Bel b n (ks.map (·.2)) os px row → Q (.bl true) H' := fun H' s' h => by
      have z := q H' s'
      rw [B_true h] at z
      exact z
    have no : ∀ H', Same H H' → ¬ Geo.Bel b n (ks.map (·.2)) os px row → Q (.bl false) H' := fun H' s' h => by
      have z := q H' s'
      rw [B_false h] at z
      exact z
    refine ⟨.ref D, rfl, D, _, rfl, .inl (SqL.of hD), _, _, rfl, rfl, _, rfl, ite2 (fun e => ?_) (fun e => ?_)⟩
    · rw [refs_len] at e
      have l3 : gs.length < 3 := by have : (gs.length : Int) < 3 := of_decide_eq_true e; omega
      have bel : Geo.Bel b n (ks.map (·.2)) os px row ↔ Hull.turn (Geo.gr n ((ks.map (·.2)).getD 0 (0, 0))) (Geo.gr n ((ks.map (·.2)).getD (ks.length - 1) (0, 0))) (b * px, b * row) = 0 ∧ ¬ Hull.Lt (b * px, b * row) (Geo.gr n ((ks.map (·.2)).getD 0 (0, 0))) ∧ ¬ Hull.Lt (Geo.gr n ((ks.map (·.2)).getD (ks.length - 1) (0, 0))) (b * px, b * row) ∧ ∀ i : Nat, i < ks.length → (i : Int) ∈ os → (b * px, b * row) ≠ Geo.gr n ((ks.map (·.2)).getD i (0, 0)) := by
        unfold Geo.Bel
        rw [List.length_map]
        constructor
        · rintro (⟨_, z⟩ | ⟨z, _⟩)
          · exact z
          · omega
        · exact fun z => .inl ⟨by omega, z⟩
      obtain ⟨g0, gL, h0, hL, a0, aL⟩ : ∃ g0 gL, gs[0]? = some g0 ∧ gs[ks.length - 1]? = some gL ∧ atI (refs gs) 0 = some (.ref g0.1) ∧ atI (refs gs) (-1) = some (.ref gL.1) := by
        match gs, lg, l3 with
        | [g], lg, _ =>
          have : ks.length = 1 := by rw [← lg]; rfl
          rw [this]
          exact ⟨g, g, rfl, rfl, rfl, rfl⟩
        | [g, g'], lg, _ =>
          have : ks.length = 2 := by rw [← lg]; rfl
          rw [this]
          exact ⟨g, g', rfl, rfl, rfl, rfl⟩
        | [], lg, _ =>
          have : ks.length = 0 := by rw [← lg]; rfl
          omega
      obtain ⟨x0, k0, e0⟩ := gAt h0
      obtain ⟨xL, kL, eL⟩ := gAt hL
      rw [cAt k0, cAt kL, ← e0, ← eL] at bel
      have T0 := T7 g0 (List.mem_of_getElem? h0)
      have TL := T7 gL (List.mem_of_getElem? hL)
      refine ⟨.ref D, rfl, D, _, 0, .ref g0.1, rfl, rfl, SqL.of hD, a0, .ref D, rfl, _, rfl, D, _, _, .ref gL.1, rfl, rfl, SqL.of hD, aL, .ref pl, rfl, g0.1, gL.1, pl, g0.2, gL.2, (b * px, b * row), rfl, T0, TL, pT7, gSw h0, gSw hL, swP, rfl, _, rfl, ite2 (fun e1 => ?_) (fun e1 => ?_)⟩
      · refine no H7 s17 fun z => ?_
        have w : V.int (Hull.turn g0.2 gL.2 (b * px, b * row)) = V.int 0 := congrArg V.int (bel.mp z).1
        rw [show decide (V.int (Hull.turn g0.2 gL.2 (b * px, b * row)) = V.int 0) = true from decide_eq_true w] at e1
        cases e1
      have t0 : Hull.turn g0.2 gL.2 (b * px, b * row) = 0 := by
        refine Classical.byContradiction fun z => e1 ?_
        rw [decide_eq_false (fun y => z (V.int.inj y))]
        rfl
      refine ⟨.ref D, rfl, D, _, 0, .ref g0.1, rfl, rfl, SqL.of hD, a0, .ref pl, rfl, g0.1, pl, [g0.2.1, g0.2.2], [b * px, b * row], rfl, rfl, T0, pT7, _, rfl, ite2 (fun c1 => ?_) (fun c1 => ?_)⟩
      · have lo := (lex_pair g0.2 (b * px, b * row)).mp c1
        refine ⟨.ref D, rfl, _, rfl, D, _, _, .ref gL.1, rfl, rfl, SqL.of hD, aL, pl, gL.1, [b * px, b * row], [gL.2.1, gL.2.2], rfl, rfl, pT7, TL, _, rfl, ite2 (fun c2 => ?_) (fun c2 => ?_)⟩
        · refine no H7 s17 fun z => ?_
          have w := (lex_pair (b * px, b * row) gL.2).mpr (bel.mp z).2.2.1
          rw [show Ob.lexAt _ _ _ _ _ = true from w] at c2
          cases c2
        · have hi : ¬ Hull.Lt gL.2 (b * px, b * row) := by
            refine (lex_pair (b * px, b * row) gL.2).mp ?_
            refine Classical.byContradiction fun z => c2 ?_
            rw [show Ob.lexAt _ _ _ _ _ = false from Bool.eq_false_iff.mpr z]
            rfl
          refine ⟨.ref pl, rfl, .ref o, rfl, o, rfl, ⟨_, f7.sid⟩, fun D2 nD2 => ?_⟩
          have inn : ∀ x ∈ os, 0 ≤ x ∧ x < ks.length := fun x hx => by
            have := isf.inn x hx
            have le : tot (ks.map (·.2)) ≤ ks.length := by
              unfold tot
              rw [List.length_map]
              split <;> omega
            omega
          refine lc_list (K := K) (a := o) (xs := os.map V.int) (fun j H' => ∃ es : Pts, Same H7 H' ∧ H' D2 = some (.lst (refs es)) ∧ es.length = j ∧ (∀ z ∈ es, z ∈ gs) ∧ ∀ y : Hull.P, y ∈ es.map (·.2) ↔ ∃ i x, i < j ∧ os[i]? = some x ∧ Geo.gr n ((ks.map (·.2)).getD x.toNat (0, 0)) = y) ⟨[], same_new nD2, upd_same, rfl, fun z hz => (nomatch hz), fun y => ⟨fun z => by simp at z, fun ⟨_, _, z, _⟩ => absurd z (Nat.not_lt_zero _)⟩⟩ (fun j H' _ z => ?_) ?_ ?_
          · obtain ⟨_, z, _⟩ := z
            exact z.seq f7.sid
          · rintro j v H8 hv ⟨es, s8, hD2, le, sub, mem⟩
            obtain ⟨x, hx, rfl⟩ : ∃ x, os[j]? = some x ∧ v = .int x := by
              rw [List.getElem?_map] at hv
              obtain ⟨x, hx, e⟩ := Option.map_eq_some_iff.mp hv
              exact ⟨x, hx, e.symm⟩
            obtain ⟨x0', x1'⟩ := inn x (List.mem_of_getElem? hx)
            obtain ⟨z, hz⟩ : ∃ z, gs[x.toNat]? = some z := ⟨_, List.getElem?_eq_getElem (by omega)⟩
            have az : atI (refs gs) x = some (.ref z.1) := by
              rw [show x = ((x.toNat : Nat) : Int) by omega]
              exact atI_nat (by unfold refs; rw [List.getElem?_map, hz]; rfl)
            have os10 : j < 11 := by
              have := (List.getElem?_eq_some_iff.mp hx).1
              rcases up_len os 0 ks.length isf.up inn with h | h
              · omega
              · rw [h] at this
                simp at this
            refine ⟨rfl, yesT ?_⟩
            refine ⟨.ref D, rfl, .int x, rfl, D, refs gs, x, .ref z.1, rfl, rfl, SqL.of (s8 _ _ hD), az, refs es, hD2, by rw [refs_len, le]; exact Nat.lt_of_lt_of_le os10 (by decide), es ++ [z], fun a' u e => ?_, ?_, by rw [List.length_append, le]; rfl, fun y hy => ?_, fun y => ?_⟩
            · rw [upd_ne (fun w => by rw [w, nD2] at e; cases e)]
              exact s8 a' u e
            · rw [upd_same]
              simp [refs]
            · rcases List.mem_append.mp hy with w | w
              · exact sub y w
              · rw [List.mem_singleton.mp w]
                exact List.mem_of_getElem? hz
            · obtain ⟨x', hx', ez⟩ := gAt hz
              rw [List.map_append, List.mem_append, mem]
              constructor
              · rintro (⟨i, x2, h1, h2, h3⟩ | h)
                · exact ⟨i, x2, by omega, h2, h3⟩
                · refine ⟨j, x, by omega, hx, ?_⟩
                  rw [cAt hx', ← ez]
                  exact (List.mem_singleton.mp h).symm
              · rintro ⟨i, x2, h1, h2, h3⟩
                by_cases q2 : i = j
                · subst q2
                  rw [hx] at h2
                  cases h2
                  refine .inr (List.mem_singleton.mpr ?_)
                  rw [← h3, cAt hx', ← ez]
                · exact .inl ⟨i, x2, by omega, h2, h3⟩
          rintro H8 ⟨es, s8, hD2, le, sub, mem⟩
          rw [List.length_map] at le mem
          have T8 : At K H8 es := fun z hz => (T7.same s8) z (sub z hz)
          refine ⟨ptD (b * px, b * row), (es.map fun z : Addr × Hull.P => z.2).map ptD, dp_pt (s8.seqT pT7), dp_pts (SqL.of hD2) T8, shaped_pt _, shaped_pts _, ?_⟩
          have key : ((es.map (·.2)).map ptD).any (fun z => PyData.eqv z (ptD (b * px, b * row))) = true ↔ ∃ i : Nat, i < ks.length ∧ (i : Int) ∈ os ∧ (b * px, b * row) = Geo.gr n ((ks.map (·.2)).getD i (0, 0)) := by
            rw [List.any_eq_true]
            constructor
            · rintro ⟨d, hd, h⟩
              obtain ⟨y, hy, rfl⟩ := List.mem_map.mp hd
              have ey := eqv_pt_eq h
              subst ey
              obtain ⟨i, x, h1, h2, h3⟩ := (mem _).mp hy
              have mx := List.mem_of_getElem? h2
              obtain ⟨x0', x1'⟩ := inn x mx
              exact ⟨x.toNat, by omega, by rw [show ((x.toNat : Nat) : Int) = x by omega]; exact mx, h3.symm⟩
            · rintro ⟨i, h1, h2, h3⟩
              obtain ⟨j, hj⟩ := List.mem_iff_getElem?.mp h2
              refine ⟨ptD (b * px, b * row), List.mem_map.mpr ⟨_, (mem (b * px, b * row)).mpr ⟨j, (i : Int), (List.getElem?_eq_some_iff.mp hj).1, hj, ?_⟩, rfl⟩, eqv_self (shaped_pt _)⟩
              rw [show ((i : Nat) : Int).toNat = i from Int.toNat_natCast i]
              exact h3.symm
          by_cases an : ((es.map (·.2)).map ptD).any (fun z => PyData.eqv z (ptD (b * px, b * row))) = true
          · rw [an]
            obtain ⟨i, h1, h2, h3⟩ := key.mp an
            exact no H8 (s17.trans s8) fun z => (bel.mp z).2.2.2 i h1 h2 h3
          · rw [Bool.eq_false_iff.mpr an]
            exact yes H8 (s17.trans s8) (bel.mpr ⟨t0, lo, hi, fun i h1 h2 h3 => an (key.mpr ⟨i, h1, h2, h3⟩)⟩)
      · exact ⟨false, rfl, iteT (no H7 s17 fun z => c1 ((lex_pair g0.2 (b * px, b * row)).mpr (bel.mp z).2.1))⟩
    · have g3 : 3 ≤ gs.length := by
        rw [refs_len] at e
        have : ¬ (gs.length : Int) < 3 := fun z => e (decide_eq_true z)
        omega
      have bel : Geo.Bel b n (ks.map (·.2)) os px row ↔ Geo.InF n (ks.map (·.2)) os (b * px) (b * row) := by
        unfold Geo.Bel
        rw [List.length_map]
        exact ⟨fun z => z.elim (fun z => by omega) fun z => z.2, fun z => .inr ⟨by omega, z⟩⟩
      refine ⟨.ref D, rfl, D, _, rfl, SqL.of hD, ?_⟩
      refine for_it (walk_enum (K := K) (a := D) (xs := refs gs)) (fun e σ H' => ∃ y8 y9 y10, σ = [some (.ref t), some (.int n), some (.ref a), some (.int b), some (.ref c), some (.ref o), some (.ref pl), some (.ref D), y8, y9, y10, none, none] ∧ Same H7 H' ∧ ∀ i p q, i < e → (ks.map (·.2))[i]? = some p → (ks.map (·.2))[(i + 1) % (ks.map (·.2)).length]? = some q → 0 ≤ Geo.ff n p q (b * px) (b * row) ∧ ((i : Int) ∈ os → 0 < Geo.ff n p q (b * px) (b * row)))
        ⟨_, _, _, rfl, Same.refl _, fun i p q z => absurd z (Nat.not_lt_zero _)⟩ (fun e σ H' _ z => ?_) ?_ ?_
      · obtain ⟨_, _, _, _, z, _⟩ := z
        exact SqL.of (z _ _ hD)
      · rintro e x σ H8 H9 he ⟨y8, y9, y10, rfl, s8, ok⟩ ⟨U, x1, x2, rfl, nU, rfl, e1, e2⟩
        have ex1 : x1 = .int (e : Nat) := (Option.some.inj e1).symm
        subst ex1
        obtain ⟨g, hg, rfl⟩ := refs_get e2
        rw [refs_len] at he
        have lb : (e + 1) % gs.length < gs.length := Nat.mod_lt _ (by omega)
        obtain ⟨g', hg'⟩ : ∃ g', gs[(e + 1) % gs.length]? = some g' := ⟨_, List.getElem?_eq_getElem lb⟩
        obtain ⟨x, hx, ex⟩ := gAt hg
        obtain ⟨y, hy, ey⟩ := gAt hg'
        have s9 := s8.trans (same_new (o := .tup [.int (e : Nat), .ref g.1]) nU)
        have hD9 := s9 _ _ hD
        have sAll := s17.trans s9
        have ia : atI (refs gs) ((((e : Nat) : Int) + 1) % ((refs gs).length : Nat)) = some (.ref g'.1) := by
          rw [refs_len, show (((e : Nat) : Int) + 1) % (gs.length : Nat) = (((e + 1) % gs.length : Nat) : Int) by rw [Int.natCast_emod]; rfl]
          exact atI_nat (by unfold refs; rw [List.getElem?_map, hg']; rfl)
        have lpos : (0 : Int) < ((refs gs).length : Nat) := by rw [refs_len]; omega
        have tf : Hull.turn g.2 g'.2 (b * px, b * row) = n * Geo.ff n x.2 y.2 (b * px) (b * row) := by
          rw [ex, ey]
          exact Geo.ff_turn n x.2 y.2 (b * px) (b * row)
        have cx : (ks.map (·.2))[e]? = some x.2 := by rw [List.getElem?_map, hx]; rfl
        have cy : (ks.map (·.2))[(e + 1) % (ks.map (·.2)).length]? = some y.2 := by
          rw [List.length_map, ← lg, List.getElem?_map, hy]
          rfl
        have lec : e < (ks.map (·.2)).length := by rw [List.length_map, ← lg]; exact he
        refine ⟨U, _, rfl, SqT.of upd_same, rfl, .int (e : Nat), [.ref g.1], rfl, .ref g.1, [], rfl, rfl, ?_⟩
        refine ⟨.ref g.1, rfl, .ref D, rfl, _, rfl, _, _, rfl, rfl, .inl ⟨_, rfl, .ref D, rfl, D, _, rfl, .inl (SqL.of hD9), _, _, rfl, rfl, lpos, D, refs gs, _, .ref g'.1, rfl, rfl, SqL.of hD9, ia, .ref pl, rfl, g.1, g'.1, pl, g.2, g'.2, (b * px, b * row), rfl, (T7.same s9) g (List.mem_of_getElem? hg), (T7.same s9) g' (List.mem_of_getElem? hg'), s9.seqT pT7, gSw hg, gSw hg', swP, ?_⟩⟩
        rw [tf]
        have pos : 0 < Geo.ff n x.2 y.2 (b * px) (b * row) → 0 < n * Geo.ff n x.2 y.2 (b * px) (b * row) := fun z => Int.mul_pos np z
        have neg : Geo.ff n x.2 y.2 (b * px) (b * row) < 0 → n * Geo.ff n x.2 y.2 (b * px) (b * row) < 0 := fun z => by
          have := Int.mul_lt_mul_of_pos_left z np
          rw [Int.mul_zero] at this
          exact this
        have zer : Geo.ff n x.2 y.2 (b * px) (b * row) = 0 → n * Geo.ff n x.2 y.2 (b * px) (b * row) = 0 := fun z => by rw [z, Int.mul_zero]
        have nxt : 0 ≤ Geo.ff n x.2 y.2 (b * px) (b * row) → ((e : Int) ∈ os → 0 < Geo.ff n x.2 y.2 (b * px) (b * row)) → ∀ i p q, i < e + 1 → (ks.map (·.2))[i]? = some p → (ks.map (·.2))[(i + 1) % (ks.map (·.2)).length]? = some q → 0 ≤ Geo.ff n p q (b * px) (b * row) ∧ ((i : Int) ∈ os → 0 < Geo.ff n p q (b * px) (b * row)) := fun h1 h2 i p q hi hp hq => by
          by_cases w : i = e
          · subst w
            rw [cx] at hp
            rw [cy] at hq
            cases hp
            cases hq
            exact ⟨h1, h2⟩
          · exact ok i p q (by omega) hp hq
        generalize hff : Geo.ff n x.2 y.2 (b * px) (b * row) = f0 at *
        refine ⟨_, rfl, _, _, rfl, rfl, _, rfl, ite2 (fun d1 => ?_) (fun d1 => ?_)⟩
        · have d2 : n * f0 < 0 := of_decide_eq_true d1
          refine no _ sAll fun z => ?_
          have := ((bel.mp z) e x.2 y.2 lec cx cy).1
          rw [hff] at this
          have : 0 ≤ n * f0 := Int.mul_nonneg (by omega) this
          omega
        · have d2 : ¬ n * f0 < 0 := fun z => d1 (decide_eq_true z)
          refine ⟨_, rfl, rfl, _, rfl, ite2 (fun d3 => ?_) (fun d3 => ?_)⟩
          · have d4 : n * f0 = 0 := V.int.inj (of_decide_eq_true d3)
            have f00 : f0 = 0 := by
              rcases Int.lt_trichotomy f0 0 with w | w | w
              · have := neg w
                omega
              · exact w
              · have := pos w
                omega
            refine ⟨.int (e : Nat), rfl, .ref o, rfl, o, _, rfl, .inl (s9.seq f7.sid), rfl, by simp [flatV], ?_⟩
            have eo : (if false = true then !inV (.int (e : Nat)) (os.map V.int) else inV (.int (e : Nat)) (os.map V.int)) = os.contains (e : Int) := inV_ints
            rw [eo]
            refine ⟨_, rfl, ite2 (fun d5 => ?_) (fun d5 => ?_)⟩
            · refine no _ sAll fun z => ?_
              have := ((bel.mp z) e x.2 y.2 lec cx cy).2 (List.contains_iff_mem.mp d5)
              rw [hff] at this
              omega
            · exact ⟨_, _, _, rfl, s9, nxt (by omega) fun z => absurd (List.contains_iff_mem.mpr z) d5⟩
          · have d4 : n * f0 ≠ 0 := fun z => d3 (decide_eq_true (congrArg V.int z))
            have fp : 0 < f0 := by
              rcases Int.lt_trichotomy f0 0 with w | w | w
              · have := neg w
                omega
              · exact absurd (zer w) d4
              · exact w
            exact iteF ⟨_, _, _, rfl, s9, nxt (by omega) fun _ => fp⟩
      · rintro σ H8 ⟨y8, y9, y10, rfl, s8, ok⟩
        rw [refs_len, lg] at ok
        exact yes H8 (s17.trans s8) (bel.mpr fun i p q hi hp hq => ok i p q (by rw [List.length_map] at hi; exact hi) hp hq)
end
end K12
set_option Elab.async false
set_option linter.all false
set_option maxRecDepth 100000
set_option maxHeartbeats 1000000
set_option exponentiation.threshold 20000
namespace K12
open PySem PySem.Spec PyProof.Rows L2 Fen
abbrev sBox : Stmt := topS 66
abbrev nBox : List Str := ["_law_plot_here", "_law_often", "_law_found", "_law_way", "_law_some", "_law_one"]
theorem scBox : FnScope nBox ["_law_plot_here", "_law_often"] (defScope sBox) := ⟨rfl, rfl, rfl, by decide +kernel, rfl, by decide +kernel, by decide +kernel⟩
def Bx (p : Hull.P) : Prop := p.1.natAbs < 2 ^ 300 ∧ p.2.natAbs < 2 ^ 300
/-- the one coordinate or the other -/
def cw (wy : Int) (q : Hull.P) : Int := if wy = 0 then q.1 else q.2
theorem bt_le {a b x M : Int} (h : Geo.Bt a b x) (ha : a ≤ M) (hb : b ≤ M) : x ≤ M := by
  rcases h with ⟨h1, h2⟩ | ⟨h1, h2⟩ <;> omega
theorem bt_ge {a b x M : Int} (h : Geo.Bt a b x) (ha : M ≤ a) (hb : M ≤ b) : M ≤ x := by
  rcases h with ⟨h1, h2⟩ | ⟨h1, h2⟩ <;> omega
theorem ceil_le {n x M : Int} (hn : 0 < n) : M ≤ n * x ↔ -((-M) / n) ≤ x := by
  have h : -x ≤ (-M) / n ↔ -x * n ≤ -M := Int.le_ediv_iff_mul_le hn
  have e : -x * n = -(n * x) := by rw [Int.neg_mul, Int.mul_comm]
  omega
theorem le_floor {n x M : Int} (hn : 0 < n) : n * x ≤ M ↔ x ≤ M / n := by
  rw [Int.le_ediv_iff_mul_le hn, Int.mul_comm]
/-- a stake that belongs lies in the box of the corners -/
theorem bel_box {b n : Int} {cs : List Hull.P} {os : List Int} {px row : Int} (isf : IsF b cs os) (hn : 0 < n) (h : Geo.Bel b n cs os px row) :
    ((∀ M, (∀ c ∈ cs, n * c.1 ≤ M) → b * px ≤ M) ∧ ∀ M, (∀ c ∈ cs, M ≤ n * c.1) → M ≤ b * px) ∧ (∀ M, (∀ c ∈ cs, n * c.2 ≤ M) → b * row ≤ M) ∧ ∀ M, (∀ c ∈ cs, M ≤ n * c.2) → M ≤ b * row := by
  rcases isf.sh with z | ⟨a, d, rfl, lt⟩ | ⟨h3, O⟩
  · match cs, z with
    | [p], _ =>
      have eo : os = [] := by
        match os, isf.inn with
        | [], _ => rfl
        | o :: r, h =>
          have := h o List.mem_cons_self
          have tz : tot [p] = 0 := rfl
          omega
      subst eo
      obtain ⟨h1, h2⟩ := bel_one.mp h
      refine ⟨⟨fun M k => ?_, fun M k => ?_⟩, fun M k => ?_, fun M k => ?_⟩ <;> have := k p (by simp) <;> omega
  · obtain ⟨_, h2, h3, _⟩ := (bel_two hn lt).mp h
    exact ⟨⟨fun M k => bt_le h2 (k a (by simp)) (k d (by simp)), fun M k => bt_ge h2 (k a (by simp)) (k d (by simp))⟩, fun M k => bt_le h3 (k a (by simp)) (k d (by simp)), fun M k => bt_ge h3 (k a (by simp)) (k d (by simp))⟩
  · have hI : Geo.InF n cs os (b * px) (b * row) := by
      rcases h with ⟨z, _⟩ | ⟨_, z⟩
      · omega
      · exact z
    obtain ⟨w1, w2⟩ := hI.widths h3 O (by omega)
    obtain ⟨v1, v2⟩ := hI.heights h3 O (by omega)
    have up : ∀ M : Int, n * (M / n) ≤ M := fun M => Int.mul_ediv_self_le (by omega)
    have dn : ∀ M : Int, M ≤ n * (-((-M) / n)) := fun M => (ceil_le hn).mpr (Int.le_refl _)
    exact ⟨⟨fun M k => Int.le_trans (w1 (M / n) fun c hc => (le_floor hn).mp (k c hc)) (up M), fun M k => Int.le_trans (dn M) (w2 _ fun c hc => (ceil_le hn).mp (k c hc))⟩,
      fun M k => Int.le_trans (v1 (M / n) fun c hc => (le_floor hn).mp (k c hc)) (up M), fun M k => Int.le_trans (dn M) (v2 _ fun c hc => (ceil_le hn).mp (k c hc))⟩
theorem bel_boxW {b n wy : Int} {cs : List Hull.P} {os : List Int} {px row mn mx : Int} (isf : IsF b cs os) (hn : 0 < n) (hb : 0 < b) (hw : wy = 0 ∨ wy = 1) (h1 : ∀ c ∈ cs, mn ≤ n * cw wy c) (h2 : ∀ c ∈ cs, n * cw wy c ≤ mx) (h : Geo.Bel b n cs os px row) :
    0 - (0 - mn) / b ≤ cw wy (px, row) ∧ cw wy (px, row) ≤ mx / b := by
  obtain ⟨⟨a1, a2⟩, a3, a4⟩ := bel_box isf hn h
  rw [show 0 - (0 - mn) / b = -((-mn) / b) by rw [Int.zero_sub, Int.zero_sub], ← ceil_le hb, ← le_floor hb]
  rcases hw with rfl | rfl
  · exact ⟨a2 mn h1, a1 mx h2⟩
  · exact ⟨a4 mn h1, a3 mx h2⟩
/-- both ends of a way -/
def IsBox (b n : Int) (cs : List Hull.P) (wy : Int) (z : Hull.P) : Prop := ∃ mn mx : Int, (∃ c ∈ cs, mn = n * cw wy c) ∧ (∀ c ∈ cs, mn ≤ n * cw wy c) ∧ (∃ c ∈ cs, mx = n * cw wy c) ∧ (∀ c ∈ cs, n * cw wy c ≤ mx) ∧ z = (0 - (0 - mn) / b, mx / b)
theorem IsBox.one {b n wy : Int} {cs : List Hull.P} {z z' : Hull.P} (h : IsBox b n cs wy z) (h' : IsBox b n cs wy z') : z = z' := by
  obtain ⟨mn, mx, ⟨c1, m1, e1⟩, l1, ⟨c2, m2, e2⟩, l2, rfl⟩ := h
  obtain ⟨mn', mx', ⟨c3, m3, e3⟩, l3, ⟨c4, m4, e4⟩, l4, rfl⟩ := h'
  have a1 := l1 c3 m3
  have a2 := l3 c1 m1
  have a3 := l2 c4 m4
  have a4 := l4 c2 m2
  rw [show mn = mn' by omega, show mx = mx' by omega]
/-- both ends of a way hold all stakes that belong -/
theorem IsBox.holds {b n wy : Int} {cs : List Hull.P} {os : List Int} {z : Hull.P} (h : IsBox b n cs wy z) (isf : IsF b cs os) (hn : 0 < n) (hw : wy = 0 ∨ wy = 1) {px row : Int} (hB : Geo.Bel b n cs os px row) : z.1 ≤ cw wy (px, row) ∧ cw wy (px, row) ≤ z.2 := by
  obtain ⟨mn, mx, _, l1, _, l2, rfl⟩ := h
  have := isf.b1
  exact bel_boxW isf hn (by omega) hw l1 l2 hB
section
variable {P : Program} {w : World} {K : PySem.W.Frag} {mg : Str → Option Value} {base : Heap}
def spBox (K : PySem.W.Frag) : Sp := fun vs H Q _ => ∃ (t c o : Addr) (b n : Int) (ks : Pts) (os : List Int), vs = [.ref t, .int n] ∧ FAt K H t c o b ks os ∧ IsF b (ks.map (·.2)) os ∧ 1 ≤ n ∧ n ≤ 10 ^ 30 ∧
  ∀ H' f z0 z1, Same H H' → H f = none → H' f = some (.lst (refs [z0, z1])) → At K H' [z0, z1] → Bx z0.2 → Bx z1.2 → IsBox b n (ks.map (·.2)) 0 z0.2 → IsBox b n (ks.map (·.2)) 1 z1.2 → Q (.ref f) H'
theorem ok_box {f : Addr} {fd : FuncData} {k : Nat} (F : Fun K "_law_box" "_law_box" sBox f fd) (mmin : mg "min" = none) (mmax : mg "max" = none) : FnOk P w K mg base CX0 (k + 1) f fd ["_law_plot_here", "_law_often"] (spBox K) := by
  refine F.ok scBox (fun vs H Q E h => ?_) (fun cdv A outer s H vs Q E hr h => ?_)
  · obtain ⟨t, c, o, b, n, ks, os, rfl, _⟩ := h
    rfl
  · obtain ⟨t, c, o, b, n, ks, os, rfl, fa, isf, n1, n2, q⟩ := h
    refine ⟨_, pss_cons (ps_set (i := 2) scBox.nd rfl (.inl rfl) (pe_lst pa_nil))
      (pss_cons (ps_for PassesOwn.never rfl (pi_tup (pe_tup (pa_cons pe_int (pa_cons pe_int pa_nil)))) (pg_name (i := 3) scBox.nd rfl (.inr rfl))
        (pss_cons (ps_setLc (i := 4) (own := [("_law_one", 5)]) (g := gName 5) (tt := tYes) (te := tOp (rI CMulW fun i j => .int (i * j)) (tVar 1) (tOp (rIxT K) (tVar 5) (tVar 3))) rfl scBox.nd rfl rfl (sw_true rfl rfl rfl (by decide +kernel)) (pi_list (pe_ix ix_tup (pv 0) pe_int (fun _ _ => rfl))) (blkOk_by (N := nBox) (sc := defScope sBox) (by decide +kernel)) (fun _ _ _ _ _ => pg_name (i := 5) scBox.nd rfl (Or.inl rfl)) (fun _ _ _ _ _ => pts_nil)
            (fun _ _ _ _ _ => pe_op op_mulW (pv 1) (pe_ix ix_tup (pv 5) (pv 3) (fun _ _ => rfl))))
        (pss_one (ps_expr (pe_bm PySem.F.plainAttrs_list PySem.F.slot_list_append PySem.F.type_list_append mt_append (pv 2) (pa_cons (pe_tup (pa_cons (pe_op op_sub pe_int (pe_op op_fdivW (pe_op op_sub pe_int (pe_callB (cr_min rfl) (by rfl) mmin (by decide +kernel) (pa_cons (pv 4) pa_nil))) (pe_ix ix_tup (pv 0) pe_int (fun _ _ => rfl))))
            (pa_cons (pe_op op_fdivW (pe_callB (cr_max rfl) (by rfl) mmax (by decide +kernel) (pa_cons (pv 4) pa_nil)) (pe_ix ix_tup (pv 0) pe_int (fun _ _ => rfl))) pa_nil))) pa_nil))))))
      (pss_one (ps_ret (pv 2)))), ?_⟩
    have b1 := isf.b1
    have b2 := isf.b2
    have nb := n_small n1 n2
    have bp : 0 < b := by omega
    have bb : b.natAbs < 2 ^ 100 := Nat.lt_of_le_of_lt (show b.natAbs ≤ 30 by omega) (by decide)
    have wd : ∀ x : Int, CDivW x b := fun x => wide_div bp bb (by decide) (by decide)
    have l1 := isf.l1
    have l2 := isf.l2
    rw [List.length_map] at l1 l2
    refine ⟨by show 0 ≤ sizeLine; decide, fun fo nfo => ?_⟩
    have s1 := same_new (o := .lst []) nfo
    have g1 : (upd H fo (.lst [])) fo = some (.lst []) := upd_same
    generalize upd H fo (.lst []) = H1 at s1 g1 ⊢
    refine ⟨by show 2 ≤ sizeLine; decide, fun tu ntu => ?_⟩
    have s2 := same_new (o := .tup [.int 0, .int 1]) ntu
    have gt : (upd H1 tu (.tup [.int 0, .int 1])) tu = some (.tup [.int 0, .int 1]) := upd_same
    have g2 := s2 _ _ g1
    have tfo : tu ≠ fo := fun z => by rw [z, g1] at ntu; cases ntu
    have s12 := s1.trans s2
    generalize upd H1 tu (.tup [.int 0, .int 1]) = H2 at s2 gt g2 s12 ⊢
    refine ⟨tu, rfl, ⟨_, SqT.of gt⟩, ?_⟩
    refine for_it (walk_tup (K := K) (a := tu) (xs := [.int 0, .int 1])) (fun i σ H' => ∃ y3 y4 zs, σ = [some (.ref t), some (.int n), some (.ref fo), y3, y4, none] ∧ Same H H' ∧ H' tu = some (.tup [.int 0, .int 1]) ∧ H' fo = some (.lst (refs zs)) ∧ At K H' zs ∧ zs.length = i ∧ (∀ z ∈ zs, Bx z.2) ∧ ∀ (j : Nat) z, zs[j]? = some z → IsBox b n (ks.map (·.2)) (j : Nat) z.2) ⟨_, _, [], rfl, s12, gt, g2, fun z hz => (nomatch hz), rfl, fun z hz => (nomatch hz), fun j z hz => by simp at hz⟩ (fun i σ H' _ z => ?_) ?_ ?_
    · obtain ⟨_, _, _, _, _, z, _⟩ := z
      exact SqT.of z
    · rintro i x σ H7 H8 hi ⟨y3, y4, zs, rfl, s7, gt7, hf, T7, lz, bz, hz7⟩ ⟨rfl, hx⟩
      obtain ⟨wy, rfl, hw, ewi⟩ : ∃ wy : Int, x = .int wy ∧ (wy = 0 ∨ wy = 1) ∧ wy = (i : Nat) := by
        have : i = 0 ∨ i = 1 := by simp at hi; omega
        rcases this with rfl | rfl
        · cases hx
          exact ⟨0, rfl, .inl rfl, rfl⟩
        · cases hx
          exact ⟨1, rfl, .inr rfl, rfl⟩
      have i2 : i < 2 := by simpa using hi
      have f7 := fa.same s7
      refine ⟨.ref t, rfl, t, _, 1, .ref c, rfl, rfl, f7.tup, atI_nat (j := 1) rfl, c, rfl, ⟨_, f7.cor⟩, fun D nD => ?_⟩
      refine lc_list (K := K) (a := c) (xs := refs ks) (fun j H' => Same H8 H' ∧ ∃ ns : List Int, H' D = some (.lst (ns.map V.int)) ∧ ns.length = j ∧ (∀ m ∈ ns, m.natAbs < 2 ^ 200) ∧ (∀ q ∈ ks.take j, n * cw wy q.2 ∈ ns) ∧ ∀ m ∈ ns, ∃ q ∈ ks, m = n * cw wy q.2) ⟨same_new nD, [], upd_same, rfl, (fun m hm => nomatch hm), (fun q hq => by simp at hq), fun m hm => nomatch hm⟩ (fun j H' _ z => z.1.seq f7.cor) ?_ ?_
      · rintro j v H9 hv ⟨s9, ns, hD, ln, bd, al, an⟩
        obtain ⟨z, hz, rfl⟩ := refs_get hv
        have mz := List.mem_of_getElem? hz
        have lj := (List.getElem?_eq_some_iff.mp hz).1
        obtain ⟨sx, sy⟩ := cor_small (isf.co z.2 (List.mem_map.mpr ⟨z, mz, rfl⟩))
        obtain ⟨cv, hc, cb, ecv⟩ : ∃ cv : Int, atI [V.int z.2.1, .int z.2.2] wy = some (.int cv) ∧ cv.natAbs < 2 ^ 100 ∧ cv = cw wy z.2 := by
          rcases hw with rfl | rfl
          · exact ⟨_, rfl, sx, rfl⟩
          · exact ⟨_, rfl, sy, rfl⟩
        refine ⟨rfl, yesT ?_⟩
        refine ⟨_, rfl, .ref z.1, rfl, .int wy, rfl, z.1, _, wy, .int cv, rfl, rfl, (f7.pts.same s9) z mz, hc, _, _, rfl, rfl, wide_mul nb cb (by decide) (by decide) (by decide), ns.map V.int, hD, by rw [List.length_map, ln]; exact Nat.lt_of_lt_of_le (show j < 11 by omega) (by decide), fun a u e => ?_, ns ++ [n * cv], by rw [upd_same, List.map_append]; rfl, by rw [List.length_append, ln]; rfl, fun m hm => ?_, fun q hq => ?_, fun m hm => ?_⟩
        · rw [upd_ne (fun w => by rw [w, nD] at e; cases e)]
          exact s9 a u e
        · rcases List.mem_append.mp hm with w | w
          · exact bd m w
          · rw [List.mem_singleton.mp w]
            exact wide_lt nb cb
        · rw [List.take_add_one, hz] at hq
          rcases List.mem_append.mp hq with w | w
          · exact List.mem_append.mpr (.inl (al q w))
          · have eq : q = z := by simpa using w
            rw [eq, ← ecv]
            exact List.mem_append.mpr (.inr (by simp))
        · rcases List.mem_append.mp hm with w | w
          · exact an m w
          · exact ⟨z, mz, by rw [List.mem_singleton.mp w, ecv]⟩
      · rintro H9 ⟨s9, ns, hD, ln, bd, al, an⟩
        rw [refs_len] at ln
        rw [refs_len, List.take_length] at al
        have hf9 := s9 _ _ hf
        have f9 := f7.same s9
        refine ⟨.ref fo, rfl, .inl ⟨rfl, _, SqL.of hf9⟩, .ref D, rfl, D, ns, rfl, SqL.of hD, by omega, fun mn mmn lmn => ?_⟩
        refine ⟨_, _, rfl, rfl, .ref t, rfl, t, _, 0, .int b, rfl, rfl, f9.tup, atI_nat (j := 0) rfl, _, _, rfl, rfl, wd _, _, _, rfl, rfl, .ref D, rfl, D, ns, rfl, SqL.of hD, by omega, fun mx mmx lmx => ?_⟩
        refine ⟨.ref t, rfl, t, _, 0, .int b, rfl, rfl, f9.tup, atI_nat (j := 0) rfl, _, _, rfl, rfl, wd _, by show 2 ≤ sizeLine; decide, fun u nu => ?_⟩
        have T9 := T7.same s9
        obtain ⟨z1, z2, z3, z4⟩ := pts_push (q := (0 - (0 - mn) / b, mx / b)) (s7.trans s9) nfo hf9 T9 nu
        have ufo : u ≠ tu := fun z => by rw [z, s9 _ _ gt7] at nu; cases nu
        have m1 := bd mn mmn
        have m2 := bd mx mmx
        refine ⟨fo, refs zs, .ref u, rfl, rfl, z1, sz_push lz (by omega), some (.int wy), some (.ref D), zs ++ [(u, (0 - (0 - mn) / b, mx / b))], rfl, z2, ?_, z3, z4, by rw [List.length_append, lz]; rfl, fun z hz => ?_, fun j z hz => ?_⟩
        · rw [upd_ne tfo, upd_ne (Ne.symm ufo)]
          exact s9 _ _ gt7
        · rcases List.mem_append.mp hz with w | w
          · exact bz z w
          · rw [List.mem_singleton.mp w]
            have e1 := Int.natAbs_ediv_le_natAbs (0 - mn) b
            have e2 := Int.natAbs_ediv_le_natAbs mx b
            have e3 : (2 : Nat) ^ 200 < 2 ^ 300 := by decide
            unfold Bx
            simp only
            generalize (2 : Nat) ^ 200 = X at *
            generalize (2 : Nat) ^ 300 = Y at *
            omega
        · by_cases ej : j < zs.length
          · rw [List.getElem?_append_left ej] at hz
            exact hz7 j z hz
          · have lj := (List.getElem?_eq_some_iff.mp hz).1
            rw [List.length_append] at lj
            have ej2 : j = zs.length := by simp at lj; omega
            rw [ej2, List.getElem?_append_right (Nat.le_refl _), Nat.sub_self] at hz
            have ez : z = (u, (0 - (0 - mn) / b, mx / b)) := (Option.some.inj hz).symm
            rw [ez, ej2, lz, ← ewi]
            obtain ⟨q1, k1, e1⟩ := an mn mmn
            obtain ⟨q2, k2, e2⟩ := an mx mmx
            refine ⟨mn, mx, ⟨q1.2, List.mem_map.mpr ⟨q1, k1, rfl⟩, e1⟩, fun c hc => ?_, ⟨q2.2, List.mem_map.mpr ⟨q2, k2, rfl⟩, e2⟩, fun c hc => ?_, rfl⟩
            · obtain ⟨q, hq, rfl⟩ := List.mem_map.mp hc
              exact lmn _ (al q hq)
            · obtain ⟨q, hq, rfl⟩ := List.mem_map.mp hc
              exact lmx _ (al q hq)
    · rintro σ H7 ⟨y3, y4, zs, rfl, s7, gt7, hf, T7, lz, bz, hz7⟩
      obtain ⟨z0, z1, rfl⟩ : ∃ z0 z1, zs = [z0, z1] := by
        match zs, lz with
        | [a, b], _ => exact ⟨a, b, rfl⟩
      exact ⟨_, rfl, q H7 fo z0 z1 s7 nfo hf T7 (bz z0 (by simp)) (bz z1 (by simp)) (hz7 0 z0 rfl) (hz7 1 z1 rfl)⟩
end
end K12
set_option Elab.async false
set_option linter.all false
set_option maxRecDepth 100000
set_option maxHeartbeats 1000000
/-! stakes as lists, counted -/
namespace Cnt
abbrev S := Int × Int
/-- the first n integers from a number on -/
def from_ (a : Int) (n : Nat) : List Int := (List.range n).map fun (k : Nat) => a + (k : Int)
theorem from_nodup (a : Int) (n : Nat) : (from_ a n).Nodup := by
  unfold from_
  refine List.pairwise_map.mpr (List.Pairwise.imp ?_ (List.nodup_range (n := n)))
  intro x y h e
  exact h (by omega)
theorem mem_from {a x : Int} {n : Nat} : x ∈ from_ a n ↔ a ≤ x ∧ x < a + n := by
  unfold from_
  rw [List.mem_map]
  constructor
  · rintro ⟨k, hk, rfl⟩
    have := List.mem_range.mp hk
    omega
  · rintro ⟨h1, h2⟩
    exact ⟨(x - a).toNat, List.mem_range.mpr (by omega), by omega⟩
theorem from_len (a : Int) (n : Nat) : (from_ a n).length = n := by simp [from_]
theorem from_succ (a : Int) (n : Nat) : from_ a (n + 1) = from_ a n ++ [a + (n : Int)] := by
  unfold from_
  rw [List.range_succ, List.map_append]
  rfl
/-- what is there row by row -/
def rowsL (f : Int → List Int) (a : Int) (n : Nat) : List S := (from_ a n).flatMap fun y => (f y).map fun x => (x, y)
theorem rows_succ (f : Int → List Int) (a : Int) (n : Nat) : rowsL f a (n + 1) = rowsL f a n ++ (f (a + n)).map fun x => (x, a + (n : Int)) := by
  unfold rowsL
  rw [from_succ, List.flatMap_append]
  simp
theorem mem_rows {f : Int → List Int} {a : Int} {n : Nat} {x y : Int} : (x, y) ∈ rowsL f a n ↔ (a ≤ y ∧ y < a + n) ∧ x ∈ f y := by
  unfold rowsL
  rw [List.mem_flatMap]
  constructor
  · rintro ⟨z, hz, h⟩
    obtain ⟨w, hw, e⟩ := List.mem_map.mp h
    cases e
    exact ⟨mem_from.mp hz, hw⟩
  · rintro ⟨h1, h2⟩
    exact ⟨y, mem_from.mpr h1, List.mem_map.mpr ⟨x, h2, rfl⟩⟩
theorem rows_nodup {f : Int → List Int} {a : Int} {n : Nat} (h : ∀ y, (f y).Nodup) : (rowsL f a n).Nodup := by
  unfold rowsL
  refine List.pairwise_flatMap.mpr ⟨fun y _ => ?_, ?_⟩
  · exact List.pairwise_map.mpr (List.Pairwise.imp (fun {u v} (h : u ≠ v) (e : (u, y) = (v, y)) => h (congrArg Prod.fst e)) (h y))
  · refine List.Pairwise.imp (fun {u v} (h : u ≠ v) p hp q hq e => ?_) (from_nodup a n)
    obtain ⟨x1, _, rfl⟩ := List.mem_map.mp hp
    obtain ⟨x2, _, rfl⟩ := List.mem_map.mp hq
    exact h (congrArg Prod.snd e)
theorem rows_len (f : Int → List Int) (a : Int) : ∀ n : Nat, ((rowsL f a n).length : Int) = Lat.sumN (fun i => ((f (a + (i : Nat))).length : Int)) n
  | 0 => rfl
  | n + 1 => by
    rw [rows_succ, List.length_append, List.length_map, Int.natCast_add, rows_len f a n]
    rfl
/-- two lists of the same stakes are as long -/
theorem same_len {l m : List S} (h1 : l.Nodup) (h2 : m.Nodup) (h : ∀ p, p ∈ l ↔ p ∈ m) : l.length = m.length := ((List.perm_ext_iff_of_nodup h1 h2).mpr h).length_eq
/-- a run -/
def runL (x y u v : Int) (m : Nat) : List S := (List.range m).map fun (k : Nat) => (x + (k : Int) * u, y + (k : Int) * v)
theorem run_len (x y u v : Int) (m : Nat) : (runL x y u v m).length = m := by simp [runL]
theorem run_nodup {x y u v : Int} {m : Nat} (h : 0 < v ∨ u = 1) : (runL x y u v m).Nodup := by
  unfold runL
  refine List.pairwise_map.mpr (List.Pairwise.imp ?_ (List.nodup_range (n := m)))
  intro i j n e
  refine n ?_
  have e1 := congrArg Prod.fst e
  have e2 := congrArg Prod.snd e
  simp only at e1 e2
  rcases h with h | h
  · have : (i : Int) * v = (j : Int) * v := by omega
    have := Int.eq_of_mul_eq_mul_right (show v ≠ 0 by omega) this
    omega
  · subst h
    omega
theorem mem_run {x y u v : Int} {m : Int} {px row : Int} : (px, row) ∈ runL x y u v m.toNat ↔ ∃ k : Int, 0 ≤ k ∧ k < m ∧ px = x + k * u ∧ row = y + k * v := by
  unfold runL
  rw [List.mem_map]
  constructor
  · rintro ⟨k, hk, e⟩
    have := List.mem_range.mp hk
    cases e
    exact ⟨k, by omega, by omega, rfl, rfl⟩
  · rintro ⟨k, k0, k1, rfl, rfl⟩
    refine ⟨k.toNat, List.mem_range.mpr (by omega), ?_⟩
    rw [show ((k.toNat : Nat) : Int) = k by omega]
/-- from a to b -/
def upto (a b : Int) : List Int := from_ a (b - a + 1).toNat
theorem mem_upto {a b x : Int} : x ∈ upto a b ↔ a ≤ x ∧ x ≤ b := by
  unfold upto
  rw [mem_from]
  omega
/-- the list of a chain of pieces -/
theorem flat_len {α : Type} (f : α → List S) (g : α → Int) : ∀ ps : List α, (∀ p ∈ ps, ((f p).length : Int) = g p) → (((ps.flatMap f).length : Nat) : Int) = (ps.map g).sum
  | [], _ => rfl
  | p :: ps, h => by
    rw [List.flatMap_cons, List.length_append, List.map_cons, List.sum_cons, Int.natCast_add, h p List.mem_cons_self, flat_len f g ps fun q hq => h q (List.mem_cons_of_mem _ hq)]
end Cnt
set_option Elab.async false
set_option linter.all false
set_option maxRecDepth 100000
set_option maxHeartbeats 1000000
set_option exponentiation.threshold 20000
namespace K12
open PySem PySem.Spec PyProof.Rows L2 Fen
abbrev sFlo : Stmt := topS 31
abbrev sRsm : Stmt := topS 37
abbrev nFlo : List Str := ["many", "slope", "start", "step", "total", "whole"]
theorem scFlo : FnScope nFlo ["many", "slope", "start", "step"] (defScope sFlo) := ⟨rfl, rfl, rfl, by decide +kernel, rfl, by decide +kernel, by decide +kernel⟩
abbrev nRsm : List Str := ["line", "row", "many", "across", "up", "bound"]
theorem scRsm : FnScope nRsm ["line", "row", "many"] (defScope sRsm) := ⟨rfl, rfl, rfl, by decide +kernel, rfl, by decide +kernel, by decide +kernel⟩
section
variable {P : Program} {w : World} {K : PySem.W.Frag} {mg : Str → Option Value} {base : Heap}
/-- one round of floor_sum -/
theorem flo_step {M a c m : Int} (hM : 0 < M) (hm : 0 < m) : Lat.FS M.toNat a c m = a / m * (M * (M - 1) / 2) + c / m * M + Lat.FS ((a % m * M + c % m) / m).toNat m ((a % m * M + c % m) % m) (a % m)
    ∧ 0 ≤ (a % m * M + c % m) / m ∧ (a % m * M + c % m) / m ≤ M ∧ (0 < (a % m * M + c % m) / m → 0 < a % m) := by
  have a0 := Int.emod_nonneg a (show m ≠ 0 by omega)
  have a1 := Int.emod_lt_of_pos a hm
  have c0 := Int.emod_nonneg c (show m ≠ 0 by omega)
  have c1 := Int.emod_lt_of_pos c hm
  have eM : ((M.toNat : Nat) : Int) = M := by omega
  have aM : 0 ≤ a % m * M := Int.mul_nonneg a0 (by omega)
  refine ⟨?_, Int.ediv_nonneg (by omega) (by omega), ?_, fun h => ?_⟩
  · rw [Lat.fs_slope hm, Lat.fs_start hm, Lat.fs_flip hm a0 c0 c1 a1, eM]
    omega
  · have h1 : a % m * M ≤ (m - 1) * M := Int.mul_le_mul_of_nonneg_right (by omega) (by omega)
    have h2 : (m - 1) * M = m * M - M := by rw [Int.sub_mul, Int.one_mul]
    have h3 : (a % m * M + c % m) / m < M + 1 := by
      refine Int.ediv_lt_of_lt_mul hm ?_
      rw [Int.add_mul, Int.one_mul, Int.mul_comm M m]
      omega
    omega
  · refine Classical.byContradiction fun z => ?_
    have : a % m = 0 := by omega
    rw [this, Int.zero_mul, Int.zero_add, Int.ediv_eq_zero_of_lt c0 c1] at h
    omega
theorem fs_zero {a c m : Int} {M : Int} (h : M ≤ 0) : Lat.FS M.toNat a c m = 0 := by
  rw [show M.toNat = 0 by omega]
  rfl
def spFlo : Sp := fun vs H Q _ => ∃ M a c m : Int, vs = [.int M, .int a, .int c, .int m] ∧ 0 ≤ M ∧ 0 < m ∧ M.natAbs < 2 ^ 4000 ∧ a.natAbs < 2 ^ 4000 ∧ m.natAbs < 2 ^ 4000 ∧ c.natAbs < 2 ^ 8000 ∧ ∀ H', Same H H' → Q (.int (Lat.FS M.toNat a c m)) H'
theorem ok_flo {f : Addr} {fd : FuncData} {k : Nat} (F : Fun K "floor_sum" "floor_sum" sFlo f fd) (mdm : mg "divmod" = none) : FnOk P w K mg base CX0 (k + 1) f fd ["many", "slope", "start", "step"] spFlo := by
  refine F.ok scFlo (fun vs H Q E h => ?_) (fun cdv A outer s H vs Q E hr h => ?_)
  · obtain ⟨M, a, c, m, rfl, _⟩ := h
    rfl
  · obtain ⟨M, a, c, m, rfl, M0, m0, Mb, ab, mb, cb, q⟩ := h
    refine ⟨_, pss_cons (ps_set (i := 4) scFlo.nd rfl (.inl rfl) pe_int)
      (pss_cons (ps_while PassesOwn.never (pt_cmpR op_gt (pv 0) pe_int (nomark _))
        (pss_cons (ps_asg (pe_callB call_divmodW (by rfl) mdm (by decide +kernel) (pa_cons (pv 1) (pa_cons (pv 3) pa_nil))) (pg_tup rfl (pgs_cons (pg_name (i := 5) scFlo.nd rfl (.inl rfl)) (pgs_cons (pg_name (i := 1) scFlo.nd rfl (.inl rfl)) pgs_nil))))
        (pss_cons (ps_aug (i := 4) scFlo.nd rfl (.inl rfl) (pe_op op_mulW (pv 5) (pe_op op_fdivW (pe_op op_mulW (pv 0) (pe_op op_sub (pv 0) pe_int)) pe_int)) ip_add)
        (pss_cons (ps_asg (pe_callB call_divmodW (by rfl) mdm (by decide +kernel) (pa_cons (pv 2) (pa_cons (pv 3) pa_nil))) (pg_tup rfl (pgs_cons (pg_name (i := 5) scFlo.nd rfl (.inl rfl)) (pgs_cons (pg_name (i := 2) scFlo.nd rfl (.inl rfl)) pgs_nil))))
        (pss_cons (ps_aug (i := 4) scFlo.nd rfl (.inl rfl) (pe_op op_mulW (pv 5) (pv 0)) ip_add)
        (pss_cons (ps_asg (pe_callB call_divmodW (by rfl) mdm (by decide +kernel) (pa_cons (pe_op op_add (pe_op op_mulW (pv 1) (pv 0)) (pv 2)) (pa_cons (pv 3) pa_nil))) (pg_tup rfl (pgs_cons (pg_name (i := 0) scFlo.nd rfl (.inl rfl)) (pgs_cons (pg_name (i := 2) scFlo.nd rfl (.inl rfl)) pgs_nil))))
        (pss_one (ps_par (i := 1) (j := 3) rfl scFlo.nd rfl rfl (by decide) rfl rfl (pa_cons (pv 3) (pa_cons (pv 1) pa_nil)) (by rfl)))))))))
      (pss_one (ps_ret (pv 4)))), ?_⟩
    refine while_by (fun σ H' => ∃ M' a' c' m' t y5, σ = [some (.int M'), some (.int a'), some (.int c'), some (.int m'), some (.int t), y5] ∧ Same H H' ∧ 0 ≤ M' ∧ (0 < M' → 0 < m') ∧ 0 ≤ m' ∧ M'.natAbs < 2 ^ 4000 ∧ a'.natAbs < 2 ^ 4000 ∧ m'.natAbs < 2 ^ 4000 ∧ c'.natAbs < 2 ^ 8000 ∧ t + Lat.FS M'.toNat a' c' m' = Lat.FS M.toNat a c m)
      (fun (σ : L2.St) _ => match σ[3]? with | some (some (V.int r)) => r.natAbs | _ => 0) ⟨M, a, c, m, 0, _, rfl, Same.refl _, M0, fun _ => m0, by omega, Mb, ab, mb, cb, by omega⟩ ?_ ?_
    · rintro σ H' ⟨M1, a1, c1, m1, t, y5, rfl, s1, b1, b2, b3, b4, b5, b6, b7, tot⟩
      refine ⟨_, rfl, _, _, rfl, rfl, _, rfl, ite2 (fun e => ?_) (fun e => ?_)⟩
      · have hM : 0 < M1 := of_decide_eq_true e
        have hm := b2 hM
        obtain ⟨st, k0, kM, kp⟩ := flo_step (a := a1) (c := c1) hM hm
        have x0 := Int.emod_nonneg a1 (show m1 ≠ 0 by omega)
        have x1 := Int.emod_lt_of_pos a1 hm
        have z0 := Int.emod_nonneg c1 (show m1 ≠ 0 by omega)
        have z1 := Int.emod_lt_of_pos c1 hm
        have wl : ∀ w : Int, 0 ≤ w → w < m1 → w.natAbs ≤ m1.natAbs := by intro w h1 h2; omega
        have qb : (a1 / m1).natAbs < 2 ^ 4000 := Nat.lt_of_le_of_lt (Int.natAbs_ediv_le_natAbs _ _) b5
        have qc : (c1 / m1).natAbs < 2 ^ 8000 := Nat.lt_of_le_of_lt (Int.natAbs_ediv_le_natAbs _ _) b7
        have Mm : (M1 - 1).natAbs < 2 ^ 4000 := Nat.lt_of_le_of_lt (by omega) b4
        have pb : (M1 * (M1 - 1) / 2).natAbs < 2 ^ 8000 := Nat.lt_of_le_of_lt (Int.natAbs_ediv_le_natAbs _ _) (wide_lt b4 Mm)
        refine ⟨.int a1, rfl, .int m1, rfl, a1, m1, rfl, ⟨hm, PyProof.noPylong_of_log2 (wide_div (i := 0) hm b6 (by decide) (by decide)).2⟩, fun u1 nu1 => ?_⟩
        refine ⟨u1, _, rfl, .inl (.inl upd_same), rfl, .int (a1 / m1), [.int (a1 % m1)], rfl, .int (a1 % m1), [], rfl, rfl, ?_⟩
        refine ⟨.int t, rfl, _, rfl, _, rfl, _, rfl, _, _, rfl, rfl, _, _, rfl, rfl, wide_mul b4 Mm (by decide) (by decide) (by decide), _, _, rfl, rfl, wide_div (b := 2) (by decide) (by decide) (by decide) (by decide), _, _, rfl, rfl, wide_mul qb pb (by decide) (by decide) (by decide), _, _, rfl, rfl, ?_⟩
        refine ⟨.int c1, rfl, .int m1, rfl, c1, m1, rfl, ⟨hm, PyProof.noPylong_of_log2 (wide_div (i := 0) hm b6 (by decide) (by decide)).2⟩, fun u2 nu2 => ?_⟩
        refine ⟨u2, _, rfl, .inl (.inl upd_same), rfl, .int (c1 / m1), [.int (c1 % m1)], rfl, .int (c1 % m1), [], rfl, rfl, ?_⟩
        refine ⟨_, rfl, _, rfl, _, rfl, _, _, rfl, rfl, wide_mul qc b4 (by decide) (by decide) (by decide), _, _, rfl, rfl, ?_⟩
        have xb : (a1 % m1).natAbs < 2 ^ 4000 := Nat.lt_of_le_of_lt (wl _ x0 x1) b6
        refine ⟨_, rfl, _, rfl, _, _, rfl, rfl, wide_mul xb b4 (by decide) (by decide) (by decide), _, rfl, _, _, rfl, rfl, .int m1, rfl, _, m1, rfl, ⟨hm, PyProof.noPylong_of_log2 (wide_div (i := 0) hm b6 (by decide) (by decide)).2⟩, fun u3 nu3 => ?_⟩
        refine ⟨u3, _, rfl, .inl (.inl upd_same), rfl, .int ((a1 % m1 * M1 + c1 % m1) / m1), [.int ((a1 % m1 * M1 + c1 % m1) % m1)], rfl, .int ((a1 % m1 * M1 + c1 % m1) % m1), [], rfl, rfl, ?_⟩
        refine ⟨.int m1, rfl, .int (a1 % m1), rfl, _, _, rfl, ?_⟩
        refine ⟨⟨(a1 % m1 * M1 + c1 % m1) / m1, m1, (a1 % m1 * M1 + c1 % m1) % m1, a1 % m1, t + a1 / m1 * (M1 * (M1 - 1) / 2) + c1 / m1 * M1, some (.int (c1 / m1)), rfl, s1.trans ((same_new nu1).trans ((same_new nu2).trans (same_new nu3))), k0, kp, x0, Nat.lt_of_le_of_lt (show ((a1 % m1 * M1 + c1 % m1) / m1).natAbs ≤ M1.natAbs by omega) b4, b6, xb, ?_, ?_⟩, ?_⟩
        · have w0 := Int.emod_nonneg (a1 % m1 * M1 + c1 % m1) (show m1 ≠ 0 by omega)
          have w1 := Int.emod_lt_of_pos (a1 % m1 * M1 + c1 % m1) hm
          exact Nat.lt_of_le_of_lt (wl _ w0 w1) (show m1.natAbs < 2 ^ 8000 from Nat.lt_trans b6 (by decide))
        · rw [← tot, st]
          omega
        · show (a1 % m1).natAbs < m1.natAbs
          omega
      · have hM : M1 = 0 := by
          have : ¬ 0 < M1 := fun z => e (decide_eq_true z)
          omega
        subst hM
        rw [fs_zero (Int.le_refl _)] at tot
        have := q H' s1
        rw [← tot, Int.add_zero] at this
        exact ⟨_, rfl, this⟩
    · rintro σ H' Q1 Q2 hq ⟨x, e, i, j, e1, e2, c, e3, z⟩
      exact ⟨x, e, i, j, e1, e2, c, e3, hq _ _ z⟩
/-- the sum of the reaches of a line -/
def spRsm (K : PySem.W.Frag) : Sp := fun vs H Q _ => ∃ (a : Addr) (ac up bd row M : Int), vs = [.ref a, .int row, .int M] ∧ SqT K H a [.int ac, .int up, .int bd] ∧ ac ≠ 0 ∧ 0 ≤ M ∧ M.natAbs < 2 ^ 4000 ∧ ac.natAbs < 2 ^ 3000 ∧ up.natAbs < 2 ^ 3000 ∧ bd.natAbs < 2 ^ 3000 ∧ row.natAbs < 2 ^ 3000 ∧
  ∀ H', Same H H' → Q (.int (Lat.sumN (fun i => Lat.reach ac up bd (row + (i : Nat))) M.toNat)) H'
theorem ok_rsm {f fL : Addr} {fd fdL : FuncData} {k : Nat} (F : Fun K "reach_sum" "reach_sum" sRsm f fd) (ma : mg "abs" = none) (CL : Cal P w K mg base (k + 1) "floor_sum" fL fdL ["many", "slope", "start", "step"] spFlo) : FnOk P w K mg base CX0 (k + 1 + 1) f fd ["line", "row", "many"] (spRsm K) := by
  refine F.ok scRsm (fun vs H Q E h => ?_) (fun cdv A outer s H vs Q E hr h => ?_)
  · obtain ⟨a, ac, up, bd, row, M, rfl, _⟩ := h
    rfl
  · obtain ⟨a, ac, up, bd, row, M, rfl, hT, a0, M0, Mb, ab, ub, bb, rb, q⟩ := h
    refine ⟨_, pss_cons (ps_asg (pv 0) (pg_tup rfl (pgs_cons (pg_name (i := 3) scRsm.nd rfl (.inl rfl)) (pgs_cons (pg_name (i := 4) scRsm.nd rfl (.inl rfl)) (pgs_cons (pg_name (i := 5) scRsm.nd rfl (.inl rfl)) pgs_nil)))))
      (pss_one (ps_ret (pe_cal CL hr (pa_cons (pv 2) (pa_cons (pv 4) (pa_cons (pe_op op_sub (pe_op op_mulW (pv 4) (pv 1)) (pv 5)) (pa_cons (pe_callB call_abs (by rfl) ma (by decide +kernel) (pa_cons (pv 3) pa_nil)) pa_nil))))))), ?_⟩
    refine ⟨.ref a, rfl, a, _, rfl, hT, rfl, .int ac, [.int up, .int bd], rfl, .int up, [.int bd], rfl, .int bd, [], rfl, rfl, ?_⟩
    have e : (if ac < 0 then -ac else ac) = (ac.natAbs : Int) := by split <;> omega
    have e2 : Lat.sumN (fun i => Lat.reach ac up bd (row + (i : Nat))) M.toNat = Lat.FS M.toNat up (up * row - bd) (ac.natAbs : Int) := by
      unfold Lat.FS Lat.reach
      refine Lat.sum_congr fun i _ => ?_
      rw [Int.mul_add]
      congr 1
      omega
    refine ⟨.int M, rfl, .int up, rfl, _, rfl, _, rfl, _, _, rfl, rfl, wide_mul ub rb (by decide) (by decide) (by decide), _, rfl, _, _, rfl, rfl, _, rfl, _, rfl, M, up, up * row - bd, (ac.natAbs : Int), by rw [e]; rfl, M0, by omega, Mb, Nat.lt_trans ub (by decide), by rw [Int.natAbs_natCast]; exact Nat.lt_trans ab (by decide), ?_, ?_⟩
    · exact Nat.lt_trans (sub_small (n := 6000) (wide_lt ub rb) (Nat.lt_trans bb (by decide))) (by decide)
    · rw [← e2]
      exact q
end
end K12
set_option Elab.async false
set_option linter.all false
set_option maxRecDepth 100000
set_option maxHeartbeats 1000000
set_option exponentiation.threshold 20000
namespace L2
open PySem PySem.Spec PyProof.Rows
def tEor (t1 t2 : TE) : TE := fun σ H Q => t1 σ H Q ∨ t2 σ H Q
theorem pe_or2 {X : Cx} {e : Expr} {t1 t2 : TE} (h1 : PE X e t1) (h2 : PE X e t2) : PE X e (tEor t1 t2) := PE.or h1 h2
end L2
namespace K12
open PySem PySem.Spec PyProof.Rows L2 Fen
abbrev sRunW : Stmt := inClass (topS 33) 1
abbrev sStpW : Stmt := inClass (topS 34) 1
abbrev sStpC : Stmt := inClass (topS 34) 2
abbrev sTof : Stmt := topS 47
abbrev sCnt : Stmt := topS 55
theorem scRunW : FnScope ["self"] ["self"] (defScope sRunW) := ⟨rfl, rfl, rfl, by decide +kernel, rfl, by decide +kernel, by decide +kernel⟩
theorem scStpW : FnScope ["self"] ["self"] (defScope sStpW) := ⟨rfl, rfl, rfl, by decide +kernel, rfl, by decide +kernel, by decide +kernel⟩
theorem scStpC : FnScope ["self", "row", "many"] ["self", "row"] (defScope sStpC) := ⟨rfl, rfl, rfl, by decide +kernel, rfl, by decide +kernel, by decide +kernel⟩
abbrev nTof : List Str := ["pieces", "piece"]
theorem scTof : FnScope nTof ["pieces"] (defScope sTof) := ⟨rfl, rfl, rfl, by decide +kernel, rfl, by decide +kernel, by decide +kernel⟩
theorem scCnt : FnScope ["fence", "size"] ["fence", "size"] (defScope sCnt) := ⟨rfl, rfl, rfl, by decide +kernel, rfl, by decide +kernel, by decide +kernel⟩
theorem same_upd {H H3 : Hp} {D : Addr} {o : HO} (nD : H D = none) (s : Same H H3) : Same H (upd H3 D o) := fun b x e => by
  have h : b ≠ D := fun z => by rw [z, nD] at e; cases e
  rw [upd_ne h]
  exact s b x e
/-- the stakes of a strip up to a row -/
def stripL (l r : Ln) (a : Int) (n : Nat) : List Cnt.S := Cnt.rowsL (fun y => Cnt.upto (-Lat.reach l.1 l.2.1 l.2.2 y) (Lat.reach r.1 r.2.1 r.2.2 y)) a n
/-- the stakes of a piece, as a list -/
def PcL : Pc → List Cnt.S
  | .run x y u v m => Cnt.runL x y u v m.toNat
  | .strip a b l r => stripL l r a (b - a + 1).toNat
theorem mem_pcL {p : Pc} (ok : PcOk p) {px row : Int} : (px, row) ∈ PcL p ↔ PcIn p row px := by
  cases p with
  | run x y u v m => exact Cnt.mem_run
  | strip a b l r =>
    obtain ⟨l0, r0, _⟩ := ok
    show (px, row) ∈ stripL l r a (b - a + 1).toNat ↔ InStrip a b l r row px
    unfold stripL InStrip
    rw [Cnt.mem_rows, Cnt.mem_upto, Lat.reach_pos l0, Lat.reach_neg r0]
    constructor
    · rintro ⟨h1, h2⟩
      exact ⟨by omega, by omega, h2⟩
    · rintro ⟨h1, h2, h3⟩
      exact ⟨⟨h1, by omega⟩, h3⟩
theorem pcL_nodup {p : Pc} (ok : PcOk p) : (PcL p).Nodup := by
  cases p with
  | run x y u v m =>
    obtain ⟨_, _, _, v0, _, _, uv⟩ := ok
    refine Cnt.run_nodup ?_
    by_cases h : v = 0
    · exact .inr (uv h)
    · exact .inl (by omega)
  | strip a b l r => exact Cnt.rows_nodup fun y => Cnt.from_nodup _ _
/-- the stakes of all pieces -/
def psL (ps : Pcs) : List Cnt.S := ps.flatMap fun p => PcL p.2
theorem mem_psL {ps : Pcs} (ok : ∀ p ∈ ps, PcOk p.2) {px row : Int} : (px, row) ∈ psL ps ↔ InPs ps row px := by
  unfold psL InPs
  rw [List.mem_flatMap]
  exact ⟨fun ⟨p, hp, h⟩ => ⟨p, hp, (mem_pcL (ok p hp)).mp h⟩, fun ⟨p, hp, h⟩ => ⟨p, hp, (mem_pcL (ok p hp)).mpr h⟩⟩
theorem psL_nodup {ps : Pcs} (ok : ∀ p ∈ ps, PcOk p.2) (sep : Sep ps) : (psL ps).Nodup := by
  unfold psL
  refine List.pairwise_flatMap.mpr ⟨fun p hp => pcL_nodup (ok p hp), ?_⟩
  rw [List.pairwise_iff_getElem]
  rintro i j hi hj lt ⟨px, row⟩ h1 ⟨qx, row'⟩ h2 e
  cases e
  exact sep.ne i j _ _ row px px (by omega) (List.getElem?_eq_getElem hi) (List.getElem?_eq_getElem hj) ((mem_pcL (ok _ (List.getElem_mem hi))).mp h1) ((mem_pcL (ok _ (List.getElem_mem hj))).mp h2)
/-- what count_to tells of a strip -/
theorem strip_len {l r : Ln} {a b : Int} {n : Nat} (gap : ∀ row, a ≤ row → row ≤ b → -Lat.reach l.1 l.2.1 l.2.2 row ≤ Lat.reach r.1 r.2.1 r.2.2 row + 1) (h : a + n - 1 ≤ b) :
    ((stripL l r a n).length : Int) = Lat.sumN (fun i => Lat.reach l.1 l.2.1 l.2.2 (a + (i : Nat))) n + Lat.sumN (fun i => Lat.reach r.1 r.2.1 r.2.2 (a + (i : Nat))) n + n := by
  unfold stripL
  rw [Cnt.rows_len, ← Lat.sum_add]
  have e1 : (n : Int) = Lat.sumN (fun _ => 1) n := by rw [Lat.sum_const, Int.one_mul]
  rw [e1, ← Lat.sum_add]
  have e2 : (Lat.sumN (fun _ => 1) n).toNat = n := by rw [← e1]; rfl
  refine Lat.sum_congr fun i hi => ?_
  show (((Cnt.from_ _ _).length : Nat) : Int) = _
  rw [Cnt.from_len]
  have g := gap (a + i) (by omega) (by omega)
  omega
section
variable {P : Program} {w : World} {K : PySem.W.Frag} {mg : Str → Option Value} {base : Heap}
def spRunW (K : PySem.W.Frag) (C : Addr) : Sp := fun vs H Q _ => ∃ (p : Addr) (x y u v m : Int), vs = [.ref p] ∧ RunAt K C H p x y u v m ∧ Q (.int m) H
theorem ok_runW {f C : Addr} {fd : FuncData} {k : Nat} (F : Fun K "whole_count" "Run.whole_count" sRunW f fd) (T : RunT K C) : FnOk P w K mg base CX0 (k + 1) f fd ["self"] (spRunW K C) := by
  refine F.ok scRunW (fun vs H Q E h => ?_) (fun cdv A outer s H vs Q E hr h => ?_)
  · obtain ⟨p, x, y, u, v, m, rfl, _⟩ := h
    rfl
  · obtain ⟨p, x, y, u, v, m, rfl, ⟨dx, t, st, hp, ht, hs⟩, q⟩ := h
    exact ⟨_, pss_one (ps_ret (pe_fld (pv 0) rfl)), .ref p, rfl, p, C, dx, _, .int m, rfl, hp, T.cl, T.n3, rf_many, q⟩
/-- how many stakes of a strip lie up to a row -/
def spStpC (K : PySem.W.Frag) (C : Addr) : Sp := fun vs H Q _ => ∃ (p : Addr) (a b : Int) (l r : Ln) (row : Int), vs = [.ref p, .int row] ∧ StripAt K C H p a b l r ∧ PcOk (.strip a b l r) ∧ row.natAbs < 2 ^ 3000 ∧
  ∀ H', Same H H' → Q (.int ((stripL l r a ((if b < row then b else row) - a + 1).toNat).length : Int)) H'
theorem ok_stpC {f C fS : Addr} {fd fdS : FuncData} {k : Nat} (F : Fun K "count_to" "Strip.count_to" sStpC f fd) (T : StripT K C) (mm : mg "min" = none)
    (CS : Cal P w K mg base (k + 1) "reach_sum" fS fdS ["line", "row", "many"] (spRsm K)) : FnOk P w K mg base CX0 (k + 1 + 1) f fd ["self", "row"] (spStpC K C) := by
  refine F.ok scStpC (fun vs H Q E h => ?_) (fun cdv A outer s H vs Q E hr h => ?_)
  · obtain ⟨p, a, b, l, r, row, rfl, _⟩ := h
    rfl
  · obtain ⟨p, a, b, l, r, row, rfl, at_, ⟨l0, r0, sl, sr, bl, br, fs, ls, gap⟩, rb, q⟩ := h
    obtain ⟨dx, lA, rA, hp, hl, hr'⟩ := at_
    refine ⟨_, pss_cons (ps_set (i := 2) scStpC.nd rfl (.inl rfl) (pe_op op_add (pe_op op_sub (pe_callB (call_min2 rfl) (by rfl) mm (by decide +kernel) (pa_cons (pv 1) (pa_cons (pe_fld (pv 0) rfl) pa_nil))) (pe_fld (pv 0) rfl)) pe_int))
      (pss_cons (ps_if (pt_cmpR op_le (pv 2) pe_int (nomark _)) (pss_one (ps_ret pe_int)) pss_nil)
      (pss_one (ps_ret (pe_op op_add (pe_op op_add (pe_cal CS hr (pa_cons (pe_fld (pv 0) rfl) (pa_cons (pe_fld (pv 0) rfl) (pa_cons (pv 2) pa_nil)))) (pe_cal CS hr (pa_cons (pe_fld (pv 0) rfl) (pa_cons (pe_fld (pv 0) rfl) (pa_cons (pv 2) pa_nil))))) (pv 2))))), ?_⟩
    refine ⟨_, rfl, .ref p, rfl, p, C, dx, _, .int b, rfl, hp, T.cl, T.n2, sf_last, row, b, rfl, .ref p, rfl, p, C, dx, _, .int a, rfl, hp, T.cl, T.n1, sf_first, _, _, rfl, rfl, _, _, rfl, rfl, ?_⟩
    generalize em : (if b < row then b else row) = m at q ⊢
    have mb : m ≤ b := by split at em <;> omega
    have ma : m.natAbs < 2 ^ 3000 := by
      rw [← em]
      split
      · exact Nat.lt_trans ls (by decide)
      · exact rb
    have f3 : a.natAbs < 2 ^ 3000 := Nat.lt_trans fs (by decide)
    refine ⟨_, rfl, _, _, rfl, rfl, _, rfl, ite2 (fun e => ?_) (fun e => ?_)⟩
    · have e0 : m - a + 1 ≤ 0 := of_decide_eq_true e
      have := q H (Same.refl _)
      rw [show (m - a + 1).toNat = 0 by omega] at this
      exact this
    · have e0 : 0 < m - a + 1 := by
        have : ¬ m - a + 1 ≤ 0 := fun z => e (decide_eq_true z)
        omega
      have mn : (m - a + 1).natAbs < 2 ^ 4000 := Nat.lt_trans (nat_sum (nat_sum (a := 3000) ma (by rw [Int.natAbs_neg]; exact f3)) (show (1 : Int).natAbs < 2 ^ 3001 by decide)) (by decide)
      have w102 : (2 : Nat) ^ 102 < 2 ^ 3000 := by decide
      have w1000 : (2 : Nat) ^ 1000 < 2 ^ 3000 := by decide
      refine ⟨.ref p, rfl, p, C, dx, _, .ref lA, rfl, hp, T.cl, T.n3, sf_left, .ref p, rfl, p, C, dx, _, .int a, rfl, hp, T.cl, T.n1, sf_first, _, rfl, lA, l.1, l.2.1, l.2.2, a, m - a + 1, rfl, hl, by omega, by omega, mn, Nat.lt_trans sl.1 w102, Nat.lt_trans sl.2 w102, Nat.lt_trans bl w1000, f3, fun H1 s1 => ?_⟩
      refine ⟨.ref p, rfl, p, C, dx, _, .ref rA, rfl, s1 _ _ hp, T.cl, T.n4, sf_right, .ref p, rfl, p, C, dx, _, .int a, rfl, s1 _ _ hp, T.cl, T.n1, sf_first, _, rfl, rA, r.1, r.2.1, r.2.2, a, m - a + 1, rfl, s1.seqT hr', by omega, by omega, mn, Nat.lt_trans sr.1 w102, Nat.lt_trans sr.2 w102, Nat.lt_trans br w1000, f3, fun H2 s2 => ?_⟩
      have fin := q H2 (s1.trans s2)
      rw [strip_len gap (by omega)] at fin
      refine ⟨_, _, rfl, rfl, _, rfl, _, _, rfl, rfl, ?_⟩
      have e3 : (((m - a + 1).toNat : Nat) : Int) = m - a + 1 := by omega
      rw [e3] at fin
      exact fin
def spStpW (K : PySem.W.Frag) (C : Addr) : Sp := fun vs H Q _ => ∃ (p : Addr) (a b : Int) (l r : Ln), vs = [.ref p] ∧ StripAt K C H p a b l r ∧ PcOk (.strip a b l r) ∧ ∀ H', Same H H' → Q (.int ((PcL (.strip a b l r)).length : Int)) H'
theorem ok_stpW {f C fC : Addr} {fd fdC : FuncData} {k : Nat} (F : Fun K "whole_count" "Strip.whole_count" sStpW f fd) (T : StripT K C)
    (OC : FnOk P w K mg base CX0 (k + 1) fC fdC ["self", "row"] (spStpC K C)) (mC : Meth K C "count_to" fC) (bC : Binds K fdC ["self", "row"] []) : FnOk P w K mg base CX0 (k + 1 + 1) f fd ["self"] (spStpW K C) := by
  refine F.ok scStpW (fun vs H Q E h => ?_) (fun cdv A outer s H vs Q E hr h => ?_)
  · obtain ⟨p, a, b, l, r, rfl, _⟩ := h
    rfl
  · obtain ⟨p, a, b, l, r, rfl, at_, ok, q⟩ := h
    obtain ⟨dx, lA, rA, hp, hl, hr'⟩ := id at_.at_
    refine ⟨_, pss_one (ps_ret (pe_meth (pv 0) T.cl mC OC hr bC .nil pass0 (pa_cons (pe_fld (pv 0) rfl) pa_nil))), ?_⟩
    refine ⟨.ref p, rfl, p, dx, _, rfl, hp, sf_no (by decide +kernel) (by decide +kernel) (by decide +kernel) (by decide +kernel), .ref p, rfl, p, C, dx, _, .int b, rfl, hp, T.cl, T.n2, sf_last, p, a, b, l, r, b, rfl, at_, ok, Nat.lt_trans ok.2.2.2.2.2.2.2.1 (by decide), fun H1 s1 => ?_⟩
    rw [if_neg (Int.lt_irrefl b)]
    exact q H1 s1
/-- how many stakes there are in all pieces -/
def spTof (K : PySem.W.Frag) (R S : Addr) : Sp := fun vs H Q _ => ∃ (M : Addr) (ps : Pcs), vs = [.ref M] ∧ H M = some (.lst (prefs ps)) ∧ PcsAt K R S H ps ∧ (∀ p ∈ ps, PcOk p.2) ∧ ps.length ≤ 100 ∧ ∀ H', Same H H' → Q (.int ((psL ps).length : Int)) H'
theorem ok_tof {f R S fR fS : Addr} {fd fdR fdS : FuncData} {k : Nat} (F : Fun K "total_of" "total_of" sTof f fd) (ms : mg "sum" = none) (TR : RunT K R) (TS : StripT K S)
    (OR : FnOk P w K mg base CX0 (k + 1) fR fdR ["self"] (spRunW K R)) (mR : Meth K R "whole_count" fR) (bR : Binds K fdR ["self"] [])
    (OS : FnOk P w K mg base CX0 (k + 1) fS fdS ["self"] (spStpW K S)) (mS : Meth K S "whole_count" fS) (bS : Binds K fdS ["self"] []) :
    FnOk P w K mg base CX0 (k + 1 + 1) f fd ["pieces"] (spTof K R S) := by
  refine F.ok scTof (fun vs H Q E h => ?_) (fun cdv A outer s H vs Q E hr h => ?_)
  · obtain ⟨M, ps, rfl, _⟩ := h
    rfl
  · obtain ⟨M, ps, rfl, hM, hA, ok, lp, q⟩ := h
    refine ⟨_, pss_one (ps_ret (pe_callB (cr_sum rfl) (by rfl) ms (by decide +kernel) (pa_cons (pe_lc (own := [("piece", 1)]) (g := gName 1) (tt := tYes) rfl scTof.nd (pi_list (pv 0)) (blkOk_by (N := nTof) (sc := defScope sTof) (by decide +kernel)) (fun _ _ _ _ _ => pg_name (i := 1) scTof.nd rfl (Or.inl rfl)) (fun _ _ _ _ _ => pts_nil)
        (fun _ _ _ _ _ => pe_or2 (pe_meth0 (pv 1) TR.cl mR OR hr bR .nil pass0) (pe_meth0 (pv 1) TS.cl mS OS hr bS .nil pass0))) pa_nil))), ?_⟩
    refine ⟨.ref M, rfl, M, rfl, ⟨_, SqL.of hM⟩, fun D nD => ?_⟩
    have lenV : ∀ j : Nat, (((ps.take j).map fun p => (((PcL p.2).length : Nat) : Int)).map V.int).length ≤ j := fun j => by simp; omega
    refine lc_list (K := K) (a := M) (xs := prefs ps) (fun j H' => Same H H' ∧ H' D = some (.lst (((ps.take j).map fun p => (((PcL p.2).length : Nat) : Int)).map V.int))) ⟨same_new nD, upd_same⟩ (fun j H' _ z => SqL.of (z.1 _ _ hM)) ?_ ?_
    · rintro j v H2 hv ⟨s2, hD⟩
      obtain ⟨⟨a, c⟩, hx, rfl⟩ := prefs_get hv
      have mx := List.mem_of_getElem? hx
      have lj := (List.getElem?_eq_some_iff.mp hx).1
      have at1 := (hA _ mx).same s2
      have ok1 := ok _ mx
      have fin : ∀ H3, Same H2 H3 → H3 D = some (.lst (((ps.take j).map fun p => (((PcL p.2).length : Nat) : Int)).map V.int)) → Same H (upd H3 D (.lst (((ps.take j).map fun p => (((PcL p.2).length : Nat) : Int)).map V.int ++ [V.int (((PcL c).length : Nat) : Int)]))) ∧ (upd H3 D (.lst (((ps.take j).map fun p => (((PcL p.2).length : Nat) : Int)).map V.int ++ [V.int (((PcL c).length : Nat) : Int)]))) D = some (.lst (((ps.take (j + 1)).map fun p => (((PcL p.2).length : Nat) : Int)).map V.int)) := fun H3 s3 hD3 => by
        refine ⟨same_upd nD (s2.trans s3), ?_⟩
        rw [upd_same, List.take_add_one, hx]
        simp
      have big : (((ps.take j).map fun p => (((PcL p.2).length : Nat) : Int)).map V.int).length < sizeLine := Nat.lt_of_le_of_lt (lenV j) (Nat.lt_of_lt_of_le (show j < 100 by omega) (by decide))
      refine ⟨rfl, ?_⟩
      cases c with
      | run x y u v m =>
        obtain ⟨dx, t, st, hp, _⟩ := id (RunAt.at_ at1)
        refine Or.inl ⟨.ref a, rfl, a, dx, _, rfl, hp, rf_no (by decide +kernel) (by decide +kernel) (by decide +kernel), a, x, y, u, v, m, rfl, at1, _, hD, big, ?_⟩
        have e : V.int m = V.int (((PcL (.run x y u v m)).length : Nat) : Int) := by
          show V.int m = V.int (((Cnt.runL x y u v m.toNat).length : Nat) : Int)
          rw [Cnt.run_len]
          have := ok1.1
          congr 1
          omega
        rw [e]
        exact fin H2 (Same.refl _) hD
      | strip b1 b2 l r =>
        obtain ⟨dx, lA, rA, hp, _⟩ := id (StripAt.at_ at1)
        refine Or.inr ⟨.ref a, rfl, a, dx, _, rfl, hp, sf_no (by decide +kernel) (by decide +kernel) (by decide +kernel) (by decide +kernel), a, b1, b2, l, r, rfl, at1, ok1, fun H3 s3 => ⟨_, s3 _ _ hD, big, fin H3 s3 (s3 _ _ hD)⟩⟩
    · rintro H2 ⟨s2, hD⟩
      rw [prefs_len, List.take_length] at hD
      refine ⟨D, _, rfl, SqL.of hD, ?_⟩
      have := q H2 s2
      unfold psL at this
      rw [Cnt.flat_len (fun p : Addr × Pc => PcL p.2) (fun p => (((PcL p.2).length : Nat) : Int)) ps fun p _ => rfl] at this
      exact this
/-- the number of stakes that belong to a grown fence -/
def spCnt (K : PySem.W.Frag) : Sp := fun vs H Q _ => ∃ (t c o : Addr) (b n : Int) (ks : Pts) (os : List Int), vs = [.ref t, .int n] ∧ FAt K H t c o b ks os ∧ IsF b (ks.map (·.2)) os ∧ 1 ≤ n ∧ n ≤ 10 ^ 30 ∧
  ∀ (l : List Cnt.S) H', l.Nodup → (∀ px row, (px, row) ∈ l ↔ Geo.Bel b n (ks.map (·.2)) os px row) → Same H H' → Q (.int (l.length : Int)) H'
theorem ok_cnt {f R S fC fS fT fF : Addr} {fd fdC fdS fdT fdF : FuncData} {k : Nat} (F : Fun K "stake_count" "stake_count" sCnt f fd)
    (CC : Cal P w K mg base (k + 1) "check_fence" fC fdC ["value"] (spChk K)) (CS : Cal P w K mg base (k + 1) "check_size" fS fdS ["value"] spCkS)
    (CT : Cal P w K mg base (k + 1) "total_of" fT fdT ["pieces"] (spTof K R S)) (CF : Cal P w K mg base (k + 1) "fence_pieces" fF fdF ["fence", "size"] (spFp K R S)) :
    FnOk P w K mg base CX0 (k + 1 + 1) f fd ["fence", "size"] (spCnt K) := by
  refine F.ok scCnt (fun vs H Q E h => ?_) (fun cdv A outer s H vs Q E hr h => ?_)
  · obtain ⟨t, c, o, b, n, ks, os, rfl, _⟩ := h
    rfl
  · obtain ⟨t, c, o, b, n, ks, os, rfl, fa, isf, n1, n2, q⟩ := h
    refine ⟨_, pss_cons (ps_expr (pe_cal CC hr (pa_cons (pv 0) pa_nil))) (pss_cons (ps_expr (pe_cal CS hr (pa_cons (pv 1) pa_nil)))
      (pss_one (ps_ret (pe_cal CT hr (pa_cons (pe_cal CF hr (pa_cons (pv 0) (pa_cons (pv 1) pa_nil))) pa_nil))))), ?_⟩
    refine ⟨_, rfl, t, c, o, b, ks, os, rfl, fa, isf, fun H1 s1 => ?_⟩
    refine ⟨_, rfl, n, rfl, n1, n2, ?_⟩
    refine ⟨.ref t, rfl, .int n, rfl, t, c, o, b, n, ks, os, rfl, fa.same s1, isf, n1, n2, fun H2 M ps s2 nM hM hA ok sep lp iff => ?_⟩
    refine ⟨M, ps, rfl, hM, hA, ok, by have := isf.l2; rw [List.length_map] at this; omega, fun H3 s3 => ?_⟩
    exact q (psL ps) H3 (psL_nodup ok sep) (fun px row => (mem_psL ok).trans (iff row px)) ((s1.trans s2).trans s3)
end
end K12
set_option Elab.async false
set_option linter.all false
set_option maxRecDepth 100000
set_option maxHeartbeats 1000000
set_option exponentiation.threshold 20000
namespace K12
open PySem PySem.Spec PyProof.Rows L2 Fen
abbrev sStpS : Stmt := inClass (topS 34) 3
abbrev nStpS : List Str := ["self", "index", "low", "high", "middle"]
theorem scStpS : FnScope nStpS ["self", "index"] (defScope sStpS) := ⟨rfl, rfl, rfl, by decide +kernel, rfl, by decide +kernel, by decide +kernel⟩
theorem rows_pre (f : Int → List Int) (a : Int) (m : Nat) : ∀ k, ∃ t, Cnt.rowsL f a (m + k) = Cnt.rowsL f a m ++ t
  | 0 => ⟨[], by simp⟩
  | k + 1 => by
    obtain ⟨t, h⟩ := rows_pre f a m k
    exact ⟨_, by rw [← Nat.add_assoc, Cnt.rows_succ, h, List.append_assoc]⟩
/-- the rows of a strip -/
def stripR (l r : Ln) (y : Int) : List Int := Cnt.upto (-Lat.reach l.1 l.2.1 l.2.2 y) (Lat.reach r.1 r.2.1 r.2.2 y)
/-- how many of a strip lie up to a row -/
def stripC (l r : Ln) (a row : Int) : Nat := (stripL l r a (row - a + 1).toNat).length
theorem stripC_low {l r : Ln} {a row : Int} (h : row < a) : stripC l r a row = 0 := by
  unfold stripC
  rw [show (row - a + 1).toNat = 0 by omega]
  rfl
theorem stripC_mono {l r : Ln} {a row row' : Int} (h : row ≤ row') : stripC l r a row ≤ stripC l r a row' := by
  unfold stripC stripL
  obtain ⟨k, hk⟩ : ∃ k, (row' - a + 1).toNat = (row - a + 1).toNat + k := ⟨(row' - a + 1).toNat - (row - a + 1).toNat, by omega⟩
  obtain ⟨t, e⟩ := rows_pre (fun y => Cnt.upto (-Lat.reach l.1 l.2.1 l.2.2 y) (Lat.reach r.1 r.2.1 r.2.2 y)) a (row - a + 1).toNat k
  rw [hk, e, List.length_append]
  omega
theorem upto_get {a b : Int} {j : Nat} (h : j < (Cnt.upto a b).length) : (Cnt.upto a b)[j]? = some (a + (j : Nat)) := by
  unfold Cnt.upto at h ⊢
  rw [Cnt.from_len] at h
  unfold Cnt.from_
  rw [List.getElem?_map, List.getElem?_range h]
  rfl
/-- the stake of a strip with an index, its row found -/
theorem strip_at {l r : Ln} {a b y : Int} {i : Nat} (h1 : a ≤ y) (h2 : y ≤ b) (c1 : stripC l r a (y - 1) ≤ i) (c2 : i < stripC l r a y) :
    (PcL (.strip a b l r))[i]? = some ((i : Int) - stripC l r a (y - 1) - Lat.reach l.1 l.2.1 l.2.2 y, y) := by
  obtain ⟨m, hm⟩ : ∃ m : Nat, y = a + m := ⟨(y - a).toNat, by omega⟩
  subst hm
  have e1 : (a + (m : Int) - 1 - a + 1).toNat = m := by omega
  have e2 : (a + (m : Int) - a + 1).toNat = m + 1 := by omega
  obtain ⟨k, hk⟩ : ∃ k, (b - a + 1).toNat = m + 1 + k := ⟨(b - a + 1).toNat - (m + 1), by omega⟩
  show (stripL l r a (b - a + 1).toNat)[i]? = _
  unfold stripC at c1 c2 ⊢
  rw [e1] at c1 ⊢
  rw [e2] at c2
  unfold stripL at c1 c2 ⊢
  obtain ⟨t, et⟩ := rows_pre (fun y => Cnt.upto (-Lat.reach l.1 l.2.1 l.2.2 y) (Lat.reach r.1 r.2.1 r.2.2 y)) a (m + 1) k
  rw [hk, et, List.getElem?_append_left c2, Cnt.rows_succ, List.getElem?_append_right c1]
  rw [Cnt.rows_succ, List.length_append, List.length_map] at c2
  rw [List.getElem?_map, upto_get (by omega)]
  show some (_, _) = some (_, _)
  congr 2
  omega
section
variable {P : Program} {w : World} {K : PySem.W.Frag} {mg : Str → Option Value} {base : Heap}
/-- the stake of a strip with an index -/
def spStpS (K : PySem.W.Frag) (C : Addr) : Sp := fun vs H Q _ => ∃ (p : Addr) (a b : Int) (l r : Ln) (i : Nat), vs = [.ref p, .int (i : Nat)] ∧ StripAt K C H p a b l r ∧ PcOk (.strip a b l r) ∧ i < (PcL (.strip a b l r)).length ∧
  ∀ H' z q, Same H H' → H z = none → H' z = some (.tup [.int q.1, .int q.2]) → (PcL (.strip a b l r))[i]? = some q → Q (.ref z) H'
theorem ok_stpS {f C fC fR : Addr} {fd fdC fdR : FuncData} {k : Nat} (F : Fun K "stake_at" "Strip.stake_at" sStpS f fd) (T : StripT K C)
    (OC : FnOk P w K mg base CX0 (k + 1) fC fdC ["self", "row"] (spStpC K C)) (mC : Meth K C "count_to" fC) (bC : Binds K fdC ["self", "row"] [])
    (CR : Cal P w K mg base (k + 1) "reach" fR fdR ["line", "row"] (spRea K)) : FnOk P w K mg base CX0 (k + 1 + 1) f fd ["self", "index"] (spStpS K C) := by
  refine F.ok scStpS (fun vs H Q E h => ?_) (fun cdv A outer s H vs Q E hr h => ?_)
  · obtain ⟨p, a, b, l, r, i, rfl, _⟩ := h
    rfl
  · obtain ⟨p, a, b, l, r, i, rfl, at_, ok, li, q⟩ := h
    obtain ⟨dx, lA, rA, hp, hl, hr'⟩ := id at_.at_
    obtain ⟨l0, r0, sl, sr, bl, br, fs, ls, gap⟩ := id ok
    refine ⟨_, pss_cons (ps_par (i := 2) (j := 3) rfl scStpS.nd rfl rfl (by decide) rfl rfl (pa_cons (pe_fld (pv 0) rfl) (pa_cons (pe_fld (pv 0) rfl) pa_nil)) (by rfl))
      (pss_cons (ps_while PassesOwn.never (pt_cmpR op_lt (pv 2) (pv 3) (nomark _))
        (pss_cons (ps_set (i := 4) scStpS.nd rfl (.inl rfl) (pe_op op_fdivW (pe_op op_add (pv 2) (pv 3)) pe_int))
        (pss_one (ps_if (pt_cmpR op_gt (pe_meth (pv 0) T.cl mC OC hr bC .nil pass0 (pa_cons (pv 4) pa_nil)) (pv 1) (nomark _)) (pss_one (ps_set (i := 3) scStpS.nd rfl (.inl rfl) (pv 4))) (pss_one (ps_set (i := 2) scStpS.nd rfl (.inl rfl) (pe_op op_add (pv 4) pe_int)))))))
      (pss_one (ps_ret (pe_tup (pa_cons (pe_op op_sub (pe_op op_sub (pv 1) (pe_meth (pv 0) T.cl mC OC hr bC .nil pass0 (pa_cons (pe_op op_sub (pv 2) pe_int) pa_nil))) (pe_cal CR hr (pa_cons (pe_fld (pv 0) rfl) (pa_cons (pv 2) pa_nil)))) (pa_cons (pv 2) pa_nil)))))), ?_⟩
    have no : (sf a b lA rA).lookup ("count_to" : Str) = none := sf_no (by decide +kernel) (by decide +kernel) (by decide +kernel) (by decide +kernel)
    have bound : ∀ y : Int, a - 1 ≤ y → y ≤ b → y.natAbs < 2 ^ 3000 := fun y h1 h2 => by
      have e : (2 : Nat) ^ 1000 + 1 < 2 ^ 3000 := by decide +kernel
      generalize (2 : Nat) ^ 1000 = A at *
      generalize (2 : Nat) ^ 3000 = B at *
      omega
    have cnt : ∀ y : Int, y ≤ b → (stripL l r a ((if b < y then b else y) - a + 1).toNat).length = stripC l r a y := fun y h => by
      rw [if_neg (by omega)]
      rfl
    have whole : (PcL (.strip a b l r)).length = stripC l r a b := rfl
    have ab : a ≤ b := by
      refine Classical.byContradiction fun z => ?_
      rw [whole, stripC_low (by omega)] at li
      exact absurd li (Nat.not_lt_zero _)
    refine ⟨.ref p, rfl, p, C, dx, _, .int a, rfl, hp, T.cl, T.n1, sf_first, .ref p, rfl, p, C, dx, _, .int b, rfl, hp, T.cl, T.n2, sf_last, _, _, rfl, ?_⟩
    refine while_by (fun σ H' => ∃ lo hi y4, σ = [some (.ref p), some (.int (i : Nat)), some (.int lo), some (.int hi), y4] ∧ Same H H' ∧ a ≤ lo ∧ lo ≤ hi ∧ hi ≤ b ∧ stripC l r a (lo - 1) ≤ i ∧ i < stripC l r a hi)
      (fun (σ : L2.St) _ => match σ[2]?, σ[3]? with | some (some (V.int x)), some (some (V.int y)) => (y - x).toNat | _, _ => 0) ⟨a, b, _, rfl, Same.refl _, Int.le_refl _, ab, Int.le_refl _, by rw [stripC_low (by omega)]; exact Nat.zero_le _, by rw [← whole]; exact li⟩ ?_ ?_
    · rintro σ H' ⟨lo, hi, y4, rfl, s', c1, c2, c3, c4, c5⟩
      have hp' := s' _ _ hp
      refine ⟨_, rfl, _, rfl, _, _, rfl, rfl, _, rfl, ite2 (fun e => ?_) (fun e => ?_)⟩
      · have lt : lo < hi := of_decide_eq_true e
        have m1 : lo ≤ ((lo + hi) / 2) := by omega
        have m2 : ((lo + hi) / 2) < hi := by omega
        refine ⟨_, rfl, _, rfl, _, _, rfl, rfl, _, _, rfl, rfl, wide_div (b := 2) (by decide) (by decide) (by decide) (by decide), ?_⟩
        refine ⟨.ref p, rfl, p, dx, _, rfl, hp', no, .int ((lo + hi) / 2), rfl, p, a, b, l, r, ((lo + hi) / 2), rfl, at_.same s', ok, bound ((lo + hi) / 2) (by omega) (by omega), fun H2 s2 => ?_⟩
        rw [cnt ((lo + hi) / 2) (by omega)]
        refine ⟨_, rfl, _, _, rfl, rfl, _, rfl, ite2 (fun e2 => ?_) (fun e2 => ?_)⟩
        · have e3 : (i : Int) < (stripC l r a ((lo + hi) / 2) : Nat) := of_decide_eq_true e2
          refine ⟨_, rfl, ⟨lo, ((lo + hi) / 2), _, rfl, s'.trans s2, c1, m1, by omega, c4, by omega⟩, ?_⟩
          show (((lo + hi) / 2) - lo).toNat < (hi - lo).toNat
          omega
        · have e3 : ¬ (i : Int) < (stripC l r a ((lo + hi) / 2) : Nat) := fun z => e2 (decide_eq_true z)
          refine ⟨_, rfl, _, _, rfl, rfl, ⟨((lo + hi) / 2) + 1, hi, _, rfl, s'.trans s2, by omega, by omega, c3, by rw [Int.add_sub_cancel]; omega, c5⟩, ?_⟩
          show (hi - (((lo + hi) / 2) + 1)).toNat < (hi - lo).toNat
          omega
      · have le : lo = hi := by
          have : ¬ lo < hi := fun z => e (decide_eq_true z)
          omega
        subst le
        refine ⟨_, rfl, .ref p, rfl, p, dx, _, rfl, hp', no, _, rfl, _, _, rfl, rfl, p, a, b, l, r, lo - 1, rfl, at_.same s', ok, bound (lo - 1) (by omega) (by omega), fun H2 s2 => ?_⟩
        rw [cnt (lo - 1) (by omega)]
        have hp2 := s2 _ _ hp'
        have w102 : (2 : Nat) ^ 102 < 2 ^ 4000 := by decide
        refine ⟨_, _, rfl, rfl, .ref p, rfl, p, C, dx, _, .ref lA, rfl, hp2, T.cl, T.n3, sf_left, _, rfl, lA, l.1, l.2.1, l.2.2, lo, rfl, (s'.trans s2).seqT hl, by omega, Nat.lt_trans sl.1 w102, Nat.lt_trans sl.2 w102, Nat.lt_trans (bound lo (by omega) (by omega)) (by decide), _, _, rfl, rfl, _, rfl, by show 2 ≤ sizeLine; decide, fun z nz => ?_⟩
        exact q _ z _ ((s'.trans s2).trans (same_new nz)) ((s'.trans s2).free nz) upd_same (strip_at c1 c3 c4 c5)
    · rintro σ H' Q1 Q2 hq ⟨x, e, y, e', i1, j1, e1, e2, c, e3, z⟩
      exact ⟨x, e, y, e', i1, j1, e1, e2, c, e3, hq _ _ z⟩
end
end K12
set_option Elab.async false
set_option linter.all false
set_option maxRecDepth 100000
set_option maxHeartbeats 1000000
set_option exponentiation.threshold 20000
namespace K12
open PySem PySem.Spec PyProof.Rows L2 Fen
abbrev sSof : Stmt := topS 49
abbrev nSof : List Str := ["pieces", "index", "piece", "many"]
theorem scSof : FnScope nSof ["pieces", "index"] (defScope sSof) := ⟨rfl, rfl, rfl, by decide +kernel, rfl, by decide +kernel, by decide +kernel⟩
theorem psL_take {ps : Pcs} {j : Nat} {p : Addr × Pc} (h : ps[j]? = some p) : psL (ps.take (j + 1)) = psL (ps.take j) ++ PcL p.2 := by
  unfold psL
  rw [List.take_add_one, h, List.flatMap_append]
  simp
theorem psL_pre (ps : Pcs) (j : Nat) : ∃ t, psL ps = psL (ps.take j) ++ t := by
  refine ⟨psL (ps.drop j), ?_⟩
  unfold psL
  rw [← List.flatMap_append, List.take_append_drop]
theorem psL_get {ps : Pcs} {j i : Nat} {p : Addr × Pc} (h : ps[j]? = some p) (h1 : (psL (ps.take j)).length ≤ i) (h2 : i - (psL (ps.take j)).length < (PcL p.2).length) : (psL ps)[i]? = (PcL p.2)[i - (psL (ps.take j)).length]? := by
  obtain ⟨t, e⟩ := psL_pre ps (j + 1)
  rw [e, psL_take h, List.append_assoc, List.getElem?_append_right h1, List.getElem?_append_left h2]
section
variable {P : Program} {w : World} {K : PySem.W.Frag} {mg : Str → Option Value} {base : Heap}
/-- the stake of all pieces with an index -/
def spSof (K : PySem.W.Frag) (R S : Addr) : Sp := fun vs H Q _ => ∃ (M : Addr) (ps : Pcs) (i : Nat), vs = [.ref M, .int (i : Nat)] ∧ H M = some (.lst (prefs ps)) ∧ PcsAt K R S H ps ∧ (∀ p ∈ ps, PcOk p.2) ∧ i < 2 ^ 4000 ∧
  (∀ H' z q, Same H H' → H' z = some (.tup [.int q.1, .int q.2]) → (psL ps)[i]? = some q → Q (.ref z) H') ∧ ∀ H', Same H H' → (psL ps).length ≤ i → Q .non H'
theorem ok_sof {f R S fR fS fA fB : Addr} {fd fdR fdS fdA fdB : FuncData} {k : Nat} (F : Fun K "stake_of" "stake_of" sSof f fd) (TR : RunT K R) (TS : StripT K S)
    (OR : FnOk P w K mg base CX0 (k + 1) fR fdR ["self"] (spRunW K R)) (mR : Meth K R "whole_count" fR) (bR : Binds K fdR ["self"] [])
    (OS : FnOk P w K mg base CX0 (k + 1) fS fdS ["self"] (spStpW K S)) (mS : Meth K S "whole_count" fS) (bS : Binds K fdS ["self"] [])
    (OA : FnOk P w K mg base CX0 (k + 1) fA fdA ["self", "index"] (spRunS K R)) (mA : Meth K R "stake_at" fA) (bA : Binds K fdA ["self", "index"] [])
    (OB : FnOk P w K mg base CX0 (k + 1) fB fdB ["self", "index"] (spStpS K S)) (mB : Meth K S "stake_at" fB) (bB : Binds K fdB ["self", "index"] []) :
    FnOk P w K mg base CX0 (k + 1 + 1) f fd ["pieces", "index"] (spSof K R S) := by
  refine F.ok scSof (fun vs H Q E h => ?_) (fun cdv A outer s H vs Q E hr h => ?_)
  · obtain ⟨M, ps, i, rfl, _⟩ := h
    rfl
  · obtain ⟨M, ps, i, rfl, hM, hA, ok, ib, q1, q2⟩ := h
    refine ⟨_, pss_cons (ps_for PassesOwn.never rfl (pi_list (pv 0)) (pg_name (i := 2) scSof.nd rfl (.inl rfl))
        (pss_cons (ps_set (i := 3) scSof.nd rfl (.inl rfl) (PE.or (pe_meth0 (pv 2) TR.cl mR OR hr bR .nil pass0) (pe_meth0 (pv 2) TS.cl mS OS hr bS .nil pass0)))
        (pss_cons (ps_if (pt_cmpR op_lt (pv 1) (pv 3) (nomark _)) (pss_one (ps_ret (PE.or (pe_meth (pv 2) TR.cl mA OA hr bA .nil pass0 (pa_cons (pv 1) pa_nil)) (pe_meth (pv 2) TS.cl mB OB hr bB .nil pass0 (pa_cons (pv 1) pa_nil))))) pss_nil)
        (pss_one (ps_aug (i := 1) scSof.nd rfl (.inl rfl) (pv 3) ip_sub)))))
      (pss_one (ps_ret pe_non)), ?_⟩
    refine ⟨.ref M, rfl, M, rfl, ⟨_, SqL.of hM⟩, ?_⟩
    refine for_list (K := K) (a := M) (xs := prefs ps) (fun j σ H' => ∃ y2 y3, σ = [some (.ref M), some (.int ((i : Int) - (psL (ps.take j)).length)), y2, y3] ∧ Same H H' ∧ (psL (ps.take j)).length ≤ i) ⟨none, none, by show [some (V.ref M), some (V.int (i : Nat)), none, none] = [some (V.ref M), some (V.int ((i : Nat) - ((0 : Nat) : Int))), none, none]; rw [Int.natCast_zero, Int.sub_zero], Same.refl _, Nat.zero_le _⟩ (fun j σ H' _ z => ?_) ?_ ?_
    · obtain ⟨_, _, _, s', _⟩ := z
      exact SqL.of (s' _ _ hM)
    · rintro j v σ H' hv ⟨y2, y3, rfl, s', le⟩
      obtain ⟨⟨a, c⟩, hx, rfl⟩ := prefs_get hv
      have mx := List.mem_of_getElem? hx
      have at1 := (hA _ mx).same s'
      have ok1 := ok _ mx
      have eI : (i : Int) - (psL (ps.take j)).length = ((i - (psL (ps.take j)).length : Nat) : Int) := by omega
      have nx : ∀ H2, Same H' H2 → ¬ (i : Int) - (psL (ps.take j)).length < ((PcL c).length : Nat) → ∀ y2 y3, ∃ z2 z3, ([some (.ref M), some (.int ((i : Int) - (psL (ps.take j)).length - ((PcL c).length : Nat))), y2, y3] : L2.St) = [some (.ref M), some (.int ((i : Int) - (psL (ps.take (j + 1))).length)), z2, z3] ∧ Same H H2 ∧ (psL (ps.take (j + 1))).length ≤ i := fun H2 s2 ge y2 y3 => by
        have e := psL_take hx
        rw [e, List.length_append]
        refine ⟨y2, y3, ?_, s'.trans s2, by simp only; omega⟩
        congr 4
        simp only
        omega
      cases c with
      | run x y u v m =>
        obtain ⟨m1, mb, ub, v0, vb, yb, uv⟩ := id ok1
        obtain ⟨dx, t, st, hp, _⟩ := id (RunAt.at_ at1)
        have em : m = (((PcL (.run x y u v m)).length : Nat) : Int) := by
          show m = (((Cnt.runL x y u v m.toNat).length : Nat) : Int)
          rw [Cnt.run_len]
          omega
        refine .inl ⟨.ref a, rfl, a, dx, _, rfl, hp, rf_no (by decide +kernel) (by decide +kernel) (by decide +kernel), a, x, y, u, v, m, rfl, at1, ?_⟩
        refine ⟨_, rfl, _, rfl, _, _, rfl, rfl, _, rfl, ite2 (fun e => ?_) (fun e => ?_)⟩
        · have lt : (i : Int) - (psL (ps.take j)).length < m := of_decide_eq_true e
          refine .inl ⟨.ref a, rfl, a, dx, _, rfl, hp, rf_no (by decide +kernel) (by decide +kernel) (by decide +kernel), _, rfl, a, x, y, u, v, m, (i : Int) - (psL (ps.take j)).length, rfl, at1, Nat.lt_of_le_of_lt (by omega) ib, Nat.lt_trans ub (by decide), Nat.lt_trans vb (by decide), fun z nz => ?_⟩
          refine q1 _ z (x + ((i : Int) - (psL (ps.take j)).length) * u, y + ((i : Int) - (psL (ps.take j)).length) * v) (s'.trans (same_new nz)) upd_same ?_
          rw [psL_get hx le (by simp only; omega)]
          show (Cnt.runL x y u v m.toNat)[_]? = _
          unfold Cnt.runL
          rw [List.getElem?_map, List.getElem?_range (by omega), eI]
          rfl
        · have ge : ¬ (i : Int) - (psL (ps.take j)).length < (((PcL (.run x y u v m)).length : Nat) : Int) := fun z => e (decide_eq_true (by rw [← em] at z; exact z))
          have z := nx H' (Same.refl _) ge (some (.ref a)) (some (.int m))
          rw [← em] at z
          exact ⟨_, rfl, _, rfl, _, _, rfl, rfl, z⟩
      | strip b1 b2 l r =>
        obtain ⟨dx, lA, rA, hp, _⟩ := id (StripAt.at_ at1)
        refine .inr ⟨.ref a, rfl, a, dx, _, rfl, hp, sf_no (by decide +kernel) (by decide +kernel) (by decide +kernel) (by decide +kernel), a, b1, b2, l, r, rfl, at1, ok1, fun H2 s2 => ?_⟩
        refine ⟨_, rfl, _, rfl, _, _, rfl, rfl, _, rfl, ite2 (fun e => ?_) (fun e => ?_)⟩
        · have lt : (i : Int) - (psL (ps.take j)).length < (((PcL (.strip b1 b2 l r)).length : Nat) : Int) := of_decide_eq_true e
          refine .inr ⟨.ref a, rfl, a, dx, _, rfl, s2 _ _ hp, sf_no (by decide +kernel) (by decide +kernel) (by decide +kernel) (by decide +kernel), _, rfl, a, b1, b2, l, r, i - (psL (ps.take j)).length, by rw [eI]; rfl, StripAt.same at1 s2, ok1, by omega, fun H3 z q' s3 nz hz hq => ?_⟩
          exact q1 H3 z q' (s'.trans (s2.trans s3)) hz (by rw [psL_get hx le (by simp only; omega)]; exact hq)
        · have ge : ¬ (i : Int) - (psL (ps.take j)).length < (((PcL (.strip b1 b2 l r)).length : Nat) : Int) := fun z => e (decide_eq_true z)
          exact ⟨_, rfl, _, rfl, _, _, rfl, rfl, nx H2 s2 ge (some (.ref a)) (some (.int (((PcL (.strip b1 b2 l r)).length : Nat) : Int)))⟩
    · rintro σ H' ⟨y2, y3, rfl, s', le⟩
      rw [prefs_len, List.take_length] at le
      exact q2 H' s' le
end
end K12
set_option Elab.async false
set_option linter.all false
set_option maxRecDepth 100000
set_option maxHeartbeats 1000000
set_option exponentiation.threshold 20000
namespace K12
open PySem PySem.Spec PyProof.Rows L2 Fen
/-- by y and then by x -/
def Yx (p q : Cnt.S) : Prop := p.2 < q.2 ∨ (p.2 = q.2 ∧ p.1 < q.1)
theorem asc_eq : ∀ {l m : List Cnt.S}, l.Pairwise Yx → m.Pairwise Yx → (∀ p, p ∈ l ↔ p ∈ m) → l = m
  | [], [], _, _, _ => rfl
  | [], y :: m, _, _, h => absurd ((h y).mpr List.mem_cons_self) List.not_mem_nil
  | x :: l, [], _, _, h => absurd ((h x).mp List.mem_cons_self) List.not_mem_nil
  | x :: l, y :: m, h1, h2, h => by
    obtain ⟨a1, b1⟩ := List.pairwise_cons.mp h1
    obtain ⟨a2, b2⟩ := List.pairwise_cons.mp h2
    have e : x = y := by
      rcases List.mem_cons.mp ((h x).mp List.mem_cons_self) with z | z
      · exact z
      · rcases List.mem_cons.mp ((h y).mpr List.mem_cons_self) with w | w
        · exact w.symm
        · have c1 := a2 x z
          have c2 := a1 y w
          unfold Yx at c1 c2
          omega
    subst e
    have tl : ∀ p, p ∈ l ↔ p ∈ m := fun p => by
      have irr : ∀ {n : List Cnt.S}, (∀ q ∈ n, Yx x q) → p ∈ n → p ≠ x := fun {n} ha hp e => by
        have := ha p hp
        rw [e] at this
        unfold Yx at this
        omega
      constructor
      · intro hp
        rcases List.mem_cons.mp ((h p).mp (List.mem_cons_of_mem _ hp)) with z | z
        · exact absurd z (irr a1 hp)
        · exact z
      · intro hp
        rcases List.mem_cons.mp ((h p).mpr (List.mem_cons_of_mem _ hp)) with z | z
        · exact absurd z (irr a2 hp)
        · exact z
    rw [asc_eq b1 b2 tl]
theorem from_asc (a : Int) (n : Nat) : (Cnt.from_ a n).Pairwise (· < ·) := by
  unfold Cnt.from_
  refine List.pairwise_map.mpr (List.Pairwise.imp ?_ (List.pairwise_lt_range (n := n)))
  intro i j h
  omega
theorem rows_asc {f : Int → List Int} {a : Int} {n : Nat} (h : ∀ y, (f y).Pairwise (· < ·)) : (Cnt.rowsL f a n).Pairwise Yx := by
  unfold Cnt.rowsL
  refine List.pairwise_flatMap.mpr ⟨fun y _ => ?_, ?_⟩
  · exact List.pairwise_map.mpr (List.Pairwise.imp (fun {u v} (h : u < v) => Or.inr ⟨rfl, h⟩) (h y))
  · refine List.Pairwise.imp (fun {u v} (h : u < v) p hp q hq => ?_) (from_asc a n)
    obtain ⟨x1, _, rfl⟩ := List.mem_map.mp hp
    obtain ⟨x2, _, rfl⟩ := List.mem_map.mp hq
    exact .inl h
theorem run_asc {x y u v : Int} {m : Nat} (v0 : 0 ≤ v) (uv : v = 0 → u = 1) : (Cnt.runL x y u v m).Pairwise Yx := by
  unfold Cnt.runL
  refine List.pairwise_map.mpr (List.Pairwise.imp ?_ (List.pairwise_lt_range (n := m)))
  intro i j h
  by_cases e : v = 0
  · refine .inr ⟨?_, ?_⟩
    · show y + (i : Int) * v = y + (j : Int) * v
      rw [e, Int.mul_zero, Int.mul_zero]
    · show x + (i : Int) * u < x + (j : Int) * u
      rw [uv e]
      omega
  · have : (i : Int) * v < (j : Int) * v := Int.mul_lt_mul_of_pos_right (by omega) (by omega)
    exact .inl (by show y + (i : Int) * v < y + (j : Int) * v; omega)
theorem pcL_asc {p : Pc} (ok : PcOk p) : (PcL p).Pairwise Yx := by
  cases p with
  | run x y u v m => exact run_asc ok.2.2.2.1 ok.2.2.2.2.2.2
  | strip a b l r => exact rows_asc fun y => from_asc _ _
theorem psL_asc {ps : Pcs} (ok : ∀ p ∈ ps, PcOk p.2) (sep : Sep ps) : (psL ps).Pairwise Yx := by
  unfold psL
  refine List.pairwise_flatMap.mpr ⟨fun p hp => pcL_asc (ok p hp), ?_⟩
  rw [List.pairwise_iff_getElem]
  rintro i j hi hj lt ⟨px, row⟩ h1 ⟨qx, row'⟩ h2
  exact .inl (sep i j _ _ row row' px qx lt (List.getElem?_eq_getElem hi) (List.getElem?_eq_getElem hj) ((mem_pcL (ok _ (List.getElem_mem hi))).mp h1) ((mem_pcL (ok _ (List.getElem_mem hj))).mp h2))
/-- the index of a stake: those of the rows below and those ahead of it in its row -/
theorem index_of {l : List Cnt.S} (h : l.Pairwise Yx) {x y lo : Int} (lo1 : ∀ z, (z, y) ∈ l → lo ≤ z) (full : ∀ z, lo ≤ z → z ≤ x → (z, y) ∈ l) (mx : (x, y) ∈ l) :
    ∃ i : Nat, l[i]? = some (x, y) ∧ (i : Int) = (l.filter fun p => decide (p.2 ≤ y - 1)).length + x - lo := by
  obtain ⟨i, hi⟩ := List.mem_iff_getElem?.mp mx
  have li := (List.getElem?_eq_some_iff.mp hi).1
  refine ⟨i, hi, ?_⟩
  -- those ahead are those of the rows below and those from lo to x
  have e1 : (l.take i).length = i := by rw [List.length_take]; omega
  have ta : (l.take i).Pairwise Yx := List.Pairwise.sublist (List.take_sublist _ _) h
  have mem : ∀ p, p ∈ l.take i ↔ p ∈ (l.filter fun p => decide (p.2 ≤ y - 1)) ++ (Cnt.upto lo (x - 1)).map fun z => (z, y) := fun p => by
    have ahead : p ∈ l.take i ↔ p ∈ l ∧ Yx p (x, y) := by
      constructor
      · intro hp
        obtain ⟨j, hj⟩ := List.mem_iff_getElem?.mp hp
        have lj := (List.getElem?_eq_some_iff.mp hj).1
        rw [List.length_take] at lj
        rw [List.getElem?_take_of_lt (by omega)] at hj
        refine ⟨List.mem_of_getElem? hj, ?_⟩
        have := List.pairwise_iff_getElem.mp h j i (by omega) li (by omega)
        rw [(List.getElem?_eq_some_iff.mp hj).2, (List.getElem?_eq_some_iff.mp hi).2] at this
        exact this
      · rintro ⟨hp, lt⟩
        obtain ⟨j, hj⟩ := List.mem_iff_getElem?.mp hp
        have lj := (List.getElem?_eq_some_iff.mp hj).1
        by_cases ji : j < i
        · refine List.mem_iff_getElem?.mpr ⟨j, ?_⟩
          rw [List.getElem?_take_of_lt ji]
          exact hj
        · exfalso
          by_cases e : j = i
          · subst e
            rw [hi] at hj
            cases hj
            unfold Yx at lt
            omega
          · have := List.pairwise_iff_getElem.mp h i j li lj (by omega)
            rw [(List.getElem?_eq_some_iff.mp hj).2, (List.getElem?_eq_some_iff.mp hi).2] at this
            unfold Yx at lt this
            omega
    rw [ahead, List.mem_append, List.mem_filter, List.mem_map]
    obtain ⟨px, py⟩ := p
    constructor
    · rintro ⟨hp, lt⟩
      unfold Yx at lt
      simp only at lt
      by_cases e : py = y
      · subst e
        exact .inr ⟨px, Cnt.mem_upto.mpr ⟨lo1 px hp, by omega⟩, rfl⟩
      · exact .inl ⟨hp, decide_eq_true (show py ≤ y - 1 by omega)⟩
    · rintro (⟨hp, d⟩ | ⟨z, hz, e⟩)
      · have : py ≤ y - 1 := of_decide_eq_true d
        exact ⟨hp, .inl (by show py < y; omega)⟩
      · cases e
        obtain ⟨z1, z2⟩ := Cnt.mem_upto.mp hz
        exact ⟨full _ z1 (by omega), .inr ⟨rfl, by show px < x; omega⟩⟩
  have nd1 : (l.take i).Nodup := List.Pairwise.imp (fun {p q} (h : Yx p q) e => by rw [e] at h; unfold Yx at h; omega) ta
  have nd2 : ((l.filter fun p => decide (p.2 ≤ y - 1)) ++ (Cnt.upto lo (x - 1)).map fun z => (z, y)).Nodup := by
    have ndl : l.Nodup := List.Pairwise.imp (fun {p q} (h : Yx p q) e => by rw [e] at h; unfold Yx at h; omega) h
    refine List.nodup_append.mpr ⟨List.Pairwise.filter _ ndl, ?_, fun p hp q hq e => ?_⟩
    · exact List.pairwise_map.mpr (List.Pairwise.imp (fun {u v} (h : u < v) (e : (u, y) = (v, y)) => by have := congrArg Prod.fst e; simp only at this; omega) (from_asc _ _))
    · have h1 : p.2 ≤ y - 1 := of_decide_eq_true (List.mem_filter.mp hp).2
      obtain ⟨z, _, rfl⟩ := List.mem_map.mp hq
      rw [e] at h1
      simp only at h1
      omega
  have len := Cnt.same_len nd1 nd2 mem
  have lu : ((Cnt.upto lo (x - 1)).length : Int) = x - lo := by
    unfold Cnt.upto
    rw [Cnt.from_len]
    have := lo1 x mx
    omega
  rw [e1, List.length_append, List.length_map] at len
  omega
end K12
set_option Elab.async false
set_option linter.all false
set_option maxRecDepth 100000
set_option maxHeartbeats 1000000
set_option exponentiation.threshold 20000
namespace K12
open PySem PySem.Spec PyProof.Rows L2 Fen
abbrev sSrw : Stmt := topS 52
abbrev sRst : Stmt := topS 53
abbrev sCkR : Stmt := topS 26
theorem scSrw : FnScope ["fence", "size", "pieces", "total"] ["fence", "size"] (defScope sSrw) := ⟨rfl, rfl, rfl, by decide +kernel, rfl, by decide +kernel, by decide +kernel⟩
theorem scRst : FnScope ["fence", "size", "row"] ["fence", "size", "row"] (defScope sRst) := ⟨rfl, rfl, rfl, by decide +kernel, rfl, by decide +kernel, by decide +kernel⟩
theorem scCkR : FnScope ["value"] ["value"] (defScope sCkR) := ⟨rfl, rfl, rfl, by decide +kernel, rfl, by decide +kernel, by decide +kernel⟩
section
variable {P : Program} {w : World} {K : PySem.W.Frag} {mg : Str → Option Value} {base : Heap}
def spCkR : Sp := fun vs H Q _ => ∃ i : Int, vs = [.int i] ∧ Q .non H
theorem ok_ckR {f fI : Addr} {fd fdI : FuncData} {k : Nat} (F : Fun K "check_row" "check_row" sCkR f fd) (CI : Cal P w K mg base (k + 1) "is_integer" fI fdI ["value"] spInt) : FnOk P w K mg base CX0 (k + 1 + 1) f fd ["value"] spCkR := by
  refine F.ok scCkR (fun vs H Q E h => ?_) (fun cdv A outer s H vs Q E hr h => ?_)
  · obtain ⟨i, rfl, _⟩ := h
    rfl
  · obtain ⟨i, rfl, q⟩ := h
    refine ⟨_, pss_one (ps_if (pt_not (pt_val (pe_cal CI hr (pa_cons (pv 0) pa_nil)))) (pss_one ps_no) pss_nil), ?_⟩
    exact ⟨_, rfl, i, rfl, true, rfl, iteF q⟩
/-- the first and the last row with a stake -/
def spSrw (K : PySem.W.Frag) : Sp := fun vs H Q _ => ∃ (t c o : Addr) (b n : Int) (ks : Pts) (os : List Int) (l : List Cnt.S), vs = [.ref t, .int n] ∧ FAt K H t c o b ks os ∧ IsF b (ks.map (·.2)) os ∧ 1 ≤ n ∧ n ≤ 10 ^ 30 ∧
  l.Pairwise Yx ∧ l.length < 2 ^ 4000 ∧ (∀ px row, (px, row) ∈ l ↔ Geo.Bel b n (ks.map (·.2)) os px row) ∧ (∀ H', Same H H' → l = [] → Q .non H') ∧
  ∀ H' z p q, Same H H' → H' z = some (.tup [.int p.2, .int q.2]) → l[0]? = some p → l[l.length - 1]? = some q → Q (.ref z) H'
theorem ok_srw {f R S fC fS fT fO fF : Addr} {fd fdC fdS fdT fdO fdF : FuncData} {k : Nat} (F : Fun K "stake_rows" "stake_rows" sSrw f fd)
    (CC : Cal P w K mg base (k + 1) "check_fence" fC fdC ["value"] (spChk K)) (CS : Cal P w K mg base (k + 1) "check_size" fS fdS ["value"] spCkS) (CT : Cal P w K mg base (k + 1) "total_of" fT fdT ["pieces"] (spTof K R S))
    (CO : Cal P w K mg base (k + 1) "stake_of" fO fdO ["pieces", "index"] (spSof K R S)) (CF : Cal P w K mg base (k + 1) "fence_pieces" fF fdF ["fence", "size"] (spFp K R S)) :
    FnOk P w K mg base CX0 (k + 1 + 1) f fd ["fence", "size"] (spSrw K) := by
  refine F.ok scSrw (fun vs H Q E h => ?_) (fun cdv A outer s H vs Q E hr h => ?_)
  · obtain ⟨t, c, o, b, n, ks, os, l, rfl, _⟩ := h
    rfl
  · obtain ⟨t, c, o, b, n, ks, os, l, rfl, fa, isf, n1, n2, asc, lb, mem, q1, q2⟩ := h
    refine ⟨_, pss_cons (ps_expr (pe_cal CC hr (pa_cons (pv 0) pa_nil))) (pss_cons (ps_expr (pe_cal CS hr (pa_cons (pv 1) pa_nil)))
      (pss_cons (ps_set (i := 2) scSrw.nd rfl (.inl rfl) (pe_cal CF hr (pa_cons (pv 0) (pa_cons (pv 1) pa_nil))))
      (pss_cons (ps_set (i := 3) scSrw.nd rfl (.inl rfl) (pe_cal CT hr (pa_cons (pv 2) pa_nil)))
      (pss_cons (ps_if (pt_cmpR op_eq (pv 3) pe_int (nomark _)) (pss_one (ps_ret pe_non)) pss_nil)
      (pss_one (ps_ret (pe_tup (pa_cons (pe_ix ix_tup (pe_cal CO hr (pa_cons (pv 2) (pa_cons pe_int pa_nil))) pe_int (fun _ _ => rfl)) (pa_cons (pe_ix ix_tup (pe_cal CO hr (pa_cons (pv 2) (pa_cons (pe_op op_sub (pv 3) pe_int) pa_nil))) pe_int (fun _ _ => rfl)) pa_nil))))))))), ?_⟩
    refine ⟨_, rfl, t, c, o, b, ks, os, rfl, fa, isf, fun H1 s1 => ?_⟩
    refine ⟨_, rfl, n, rfl, n1, n2, ?_⟩
    refine ⟨.ref t, rfl, .int n, rfl, t, c, o, b, n, ks, os, rfl, fa.same s1, isf, n1, n2, fun H2 M ps s2 nM hM hA ok sep lp iff => ?_⟩
    have el : psL ps = l := asc_eq (psL_asc ok sep) asc fun p => (mem_psL ok).trans ((iff p.2 p.1).trans (mem p.1 p.2).symm)
    refine ⟨.ref M, rfl, M, ps, rfl, hM, hA, ok, by have := isf.l2; rw [List.length_map] at this; omega, fun H3 s3 => ?_⟩
    rw [el]
    have s13 := (s1.trans s2).trans s3
    have hM3 := s3 _ _ hM
    have hA3 := hA.same s3
    refine ⟨_, rfl, rfl, _, rfl, ite2 (fun e => ?_) (fun e => ?_)⟩
    · have : (l.length : Int) = 0 := V.int.inj (of_decide_eq_true e)
      exact q1 H3 s13 (List.eq_nil_of_length_eq_zero (by omega))
    · have l0 : l.length ≠ 0 := fun z => e (decide_eq_true (by rw [z]; rfl))
      refine ⟨.ref M, rfl, M, ps, 0, rfl, hM3, hA3, ok, by decide, fun H4 z p s4 hz hp => ?_, fun H4 s4 le => ?_⟩
      · rw [el] at hp
        refine ⟨z, _, 1, .int p.2, rfl, rfl, .inl (.inl hz), atI_nat (j := 1) rfl, .ref M, rfl, _, rfl, _, _, rfl, rfl, M, ps, l.length - 1, congrArg (fun x => [V.ref M, V.int x]) (show ((l.length : Nat) : Int) - 1 = ((l.length - 1 : Nat) : Int) by omega), s4 _ _ hM3, hA3.same s4, ok, by omega, fun H5 z' p' s5 hz' hp' => ?_, fun H5 s5 le => ?_⟩
        · rw [el] at hp'
          refine ⟨z', _, 1, .int p'.2, rfl, rfl, .inl (.inl hz'), atI_nat (j := 1) rfl, by show 2 ≤ sizeLine; decide, fun u nu => ?_⟩
          exact q2 _ u p p' (s13.trans (s4.trans (s5.trans (same_new nu)))) upd_same hp hp'
        · rw [el] at le
          omega
      · rw [el] at le
        omega
/-- both ends of a row -/
def spRst (K : PySem.W.Frag) : Sp := fun vs H Q _ => ∃ (t c o : Addr) (b n row : Int) (ks : Pts) (os : List Int), vs = [.ref t, .int n, .int row] ∧ FAt K H t c o b ks os ∧ IsF b (ks.map (·.2)) os ∧ 1 ≤ n ∧ n ≤ 10 ^ 30 ∧ row.natAbs < 2 ^ 3000 ∧
  Ends (fun px => Geo.Bel b n (ks.map (·.2)) os px row) H Q
theorem ok_rst {f R S fC fS fR fE fF : Addr} {fd fdC fdS fdR fdE fdF : FuncData} {k : Nat} (F : Fun K "row_stakes" "row_stakes" sRst f fd)
    (CC : Cal P w K mg base (k + 1) "check_fence" fC fdC ["value"] (spChk K)) (CS : Cal P w K mg base (k + 1) "check_size" fS fdS ["value"] spCkS) (CR : Cal P w K mg base (k + 1) "check_row" fR fdR ["value"] spCkR)
    (CE : Cal P w K mg base (k + 1) "ends_of" fE fdE ["pieces", "row"] (spEof K R S)) (CF : Cal P w K mg base (k + 1) "fence_pieces" fF fdF ["fence", "size"] (spFp K R S)) :
    FnOk P w K mg base CX0 (k + 1 + 1) f fd ["fence", "size", "row"] (spRst K) := by
  refine F.ok scRst (fun vs H Q E h => ?_) (fun cdv A outer s H vs Q E hr h => ?_)
  · obtain ⟨t, c, o, b, n, row, ks, os, rfl, _⟩ := h
    rfl
  · obtain ⟨t, c, o, b, n, row, ks, os, rfl, fa, isf, n1, n2, rb, q1, q2⟩ := h
    refine ⟨_, pss_cons (ps_expr (pe_cal CC hr (pa_cons (pv 0) pa_nil))) (pss_cons (ps_expr (pe_cal CS hr (pa_cons (pv 1) pa_nil))) (pss_cons (ps_expr (pe_cal CR hr (pa_cons (pv 2) pa_nil)))
      (pss_one (ps_ret (pe_cal CE hr (pa_cons (pe_cal CF hr (pa_cons (pv 0) (pa_cons (pv 1) pa_nil))) (pa_cons (pv 2) pa_nil))))))), ?_⟩
    refine ⟨_, rfl, t, c, o, b, ks, os, rfl, fa, isf, fun H1 s1 => ?_⟩
    refine ⟨_, rfl, n, rfl, n1, n2, ?_⟩
    refine ⟨_, rfl, row, rfl, ?_⟩
    refine ⟨.ref t, rfl, .int n, rfl, t, c, o, b, n, ks, os, rfl, fa.same s1, isf, n1, n2, fun H2 M ps s2 nM hM hA ok sep lp iff => ?_⟩
    have s12 := s1.trans s2
    exact ⟨_, rfl, M, ps, row, rfl, hM, hA, ok, sep, rb, fun H3 s3 no => q1 H3 (s12.trans s3) fun x hx => no x ((iff row x).mpr hx), fun H3 z lo hi s3 hz le m => q2 H3 z lo hi (s12.trans s3) hz le fun x => ((iff row x).symm).trans (m x)⟩
end
end K12
set_option Elab.async false
set_option linter.all false
set_option maxRecDepth 100000
set_option maxHeartbeats 1000000
set_option exponentiation.threshold 20000
namespace K12
open PySem PySem.Spec PyProof.Rows L2 Fen
abbrev sRunC : Stmt := inClass (topS 33) 2
abbrev sTto : Stmt := topS 48
theorem scRunC : FnScope ["self", "row", "y", "up"] ["self", "row"] (defScope sRunC) := ⟨rfl, rfl, rfl, by decide +kernel, rfl, by decide +kernel, by decide +kernel⟩
abbrev nTto : List Str := ["pieces", "row", "piece"]
theorem scTto : FnScope nTto ["pieces", "row"] (defScope sTto) := ⟨rfl, rfl, rfl, by decide +kernel, rfl, by decide +kernel, by decide +kernel⟩
/-- those up to a row -/
def upL (row : Int) (l : List Cnt.S) : List Cnt.S := l.filter fun p => decide (p.2 ≤ row)
theorem mem_up {row px y : Int} {l : List Cnt.S} : (px, y) ∈ upL row l ↔ (px, y) ∈ l ∧ y ≤ row := by
  unfold upL
  rw [List.mem_filter]
  exact ⟨fun ⟨h1, h2⟩ => ⟨h1, of_decide_eq_true h2⟩, fun ⟨h1, h2⟩ => ⟨h1, decide_eq_true h2⟩⟩
theorem up_nodup {row : Int} {l : List Cnt.S} (h : l.Nodup) : (upL row l).Nodup := List.Pairwise.filter _ h
theorem up_flat {α : Type} (f : α → List Cnt.S) (row : Int) : ∀ ps : List α, upL row (ps.flatMap f) = ps.flatMap fun p => upL row (f p)
  | [] => rfl
  | p :: ps => by
    rw [List.flatMap_cons, List.flatMap_cons, ← up_flat f row ps]
    unfold upL
    rw [List.filter_append]
theorem strip_up {l r : Ln} {a b row : Int} : (upL row (PcL (.strip a b l r))).length = (stripL l r a ((if b < row then b else row) - a + 1).toNat).length := by
  refine Cnt.same_len (up_nodup (Cnt.rows_nodup fun y => Cnt.from_nodup _ _)) (Cnt.rows_nodup fun y => Cnt.from_nodup _ _) fun p => ?_
  obtain ⟨px, y⟩ := p
  rw [mem_up]
  show (px, y) ∈ stripL l r a _ ∧ _ ↔ (px, y) ∈ stripL l r a _
  unfold stripL
  rw [Cnt.mem_rows, Cnt.mem_rows]
  constructor
  · rintro ⟨⟨h1, h2⟩, h3⟩
    refine ⟨?_, h2⟩
    split <;> omega
  · rintro ⟨h1, h2⟩
    refine ⟨⟨?_, h2⟩, ?_⟩
    · split at h1 <;> omega
    · split at h1 <;> omega
/-- how many of a run lie up to a row -/
def runTo (y v m row : Int) : Int := if row < y then 0 else if v = 0 then m else if (row - y) / v + 1 < m then (row - y) / v + 1 else m
theorem run_up {x y u v m row : Int} (m1 : 1 ≤ m) (v0 : 0 ≤ v) (uv : v = 0 → u = 1) : ((upL row (PcL (.run x y u v m))).length : Int) = runTo y v m row := by
  have t0 : 0 ≤ runTo y v m row := by
    unfold runTo
    split
    · omega
    · split
      · omega
      · have := Int.ediv_nonneg (show 0 ≤ row - y by omega) v0
        split <;> omega
  have uv' : 0 < v ∨ u = 1 := by
    by_cases h : v = 0
    · exact .inr (uv h)
    · exact .inl (by omega)
  have e : (upL row (PcL (.run x y u v m))).length = (Cnt.runL x y u v (runTo y v m row).toNat).length := by
    refine Cnt.same_len (up_nodup (Cnt.run_nodup uv')) (Cnt.run_nodup uv') fun p => ?_
    obtain ⟨px, z⟩ := p
    rw [mem_up]
    show (px, z) ∈ Cnt.runL x y u v m.toNat ∧ z ≤ row ↔ _
    rw [Cnt.mem_run, Cnt.mem_run]
    have key : ∀ k : Int, 0 ≤ k → ((k < m ∧ y + k * v ≤ row) ↔ k < runTo y v m row) := fun k k0 => by
      have kv : 0 ≤ k * v := Int.mul_nonneg k0 v0
      unfold runTo
      split
      · omega
      · split
        · rename_i h
          rw [h, Int.mul_zero]
          omega
        · rename_i h h'
          have hv : 0 < v := by omega
          have := Int.le_ediv_iff_mul_le hv (a := k) (b := row - y)
          split <;> omega
    constructor
    · rintro ⟨⟨k, k0, k1, e1, e2⟩, h⟩
      exact ⟨k, k0, (key k k0).mp ⟨k1, by omega⟩, e1, e2⟩
    · rintro ⟨k, k0, k1, e1, e2⟩
      have := (key k k0).mpr k1
      exact ⟨⟨k, k0, this.1, e1, e2⟩, by omega⟩
  rw [e, Cnt.run_len]
  omega
section
variable {P : Program} {w : World} {K : PySem.W.Frag} {mg : Str → Option Value} {base : Heap}
def spRunC (K : PySem.W.Frag) (C : Addr) : Sp := fun vs H Q _ => ∃ (p : Addr) (x y u v m row : Int), vs = [.ref p, .int row] ∧ RunAt K C H p x y u v m ∧ PcOk (.run x y u v m) ∧ Q (.int ((upL row (PcL (.run x y u v m))).length : Int)) H
theorem ok_runC {f C : Addr} {fd : FuncData} {k : Nat} (F : Fun K "count_to" "Run.count_to" sRunC f fd) (T : RunT K C) (mm : mg "min" = none) : FnOk P w K mg base CX0 (k + 1) f fd ["self", "row"] (spRunC K C) := by
  refine F.ok scRunC (fun vs H Q E h => ?_) (fun cdv A outer s H vs Q E hr h => ?_)
  · obtain ⟨p, x, y, u, v, m, row, rfl, _⟩ := h
    rfl
  · obtain ⟨p, x, y, u, v, m, row, rfl, ⟨dx, t, st, hp, ht, hs⟩, ⟨m1, mb, ub, v0, vb, yb, uv⟩, q⟩ := h
    refine ⟨_, pss_cons (ps_par (i := 2) (j := 3) rfl scRunC.nd rfl rfl (by decide) rfl rfl (pa_cons (pe_ix ix_tup (pe_fld (pv 0) rfl) pe_int (fun _ _ => rfl)) (pa_cons (pe_ix ix_tup (pe_fld (pv 0) rfl) pe_int (fun _ _ => rfl)) pa_nil)) (by rfl))
      (pss_cons (ps_if (pt_cmpR op_lt (pv 1) (pv 2) (nomark _)) (pss_one (ps_ret pe_int)) pss_nil)
      (pss_cons (ps_if (pt_cmpR op_eq (pv 3) pe_int (nomark _)) (pss_one (ps_ret (pe_fld (pv 0) rfl))) pss_nil)
      (pss_one (ps_ret (pe_callB (call_min2 rfl) (by rfl) mm (by decide +kernel) (pa_cons (pe_fld (pv 0) rfl) (pa_cons (pe_op op_add (pe_op op_fdivW (pe_op op_sub (pv 1) (pv 2)) (pv 3)) pe_int) pa_nil))))))), ?_⟩
    rw [run_up m1 v0 uv] at q
    refine ⟨.ref p, rfl, p, C, dx, _, .ref t, rfl, hp, T.cl, T.n1, rf_start, t, _, 1, .int y, rfl, rfl, ht, atI_nat (j := 1) rfl, .ref p, rfl, p, C, dx, _, .ref st, rfl, hp, T.cl, T.n2, rf_step, st, _, 1, .int v, rfl, rfl, hs, atI_nat (j := 1) rfl, _, _, rfl, ?_⟩
    unfold runTo at q
    refine ⟨_, rfl, _, rfl, _, _, rfl, rfl, _, rfl, ite2 (fun e => ?_) (fun e => ?_)⟩
    · rw [if_pos (of_decide_eq_true e)] at q
      exact q
    · have e1 : ¬ row < y := fun z => e (decide_eq_true z)
      rw [if_neg e1] at q
      refine ⟨_, rfl, rfl, _, rfl, ite2 (fun e2 => ?_) (fun e2 => ?_)⟩
      · have ev : v = 0 := V.int.inj (of_decide_eq_true e2)
        rw [if_pos ev] at q
        exact ⟨.ref p, rfl, p, C, dx, _, .int m, rfl, hp, T.cl, T.n3, rf_many, q⟩
      · have ev : ¬ v = 0 := fun z => e2 (decide_eq_true (congrArg V.int z))
        rw [if_neg ev] at q
        exact ⟨.ref p, rfl, p, C, dx, _, .int m, rfl, hp, T.cl, T.n3, rf_many, _, rfl, _, rfl, _, _, rfl, rfl, _, rfl, _, _, rfl, rfl, wide_div (show 0 < v by omega) vb (by decide) (by decide), _, _, rfl, rfl, _, _, rfl, q⟩
/-- how many of all lie up to a row -/
def spTto (K : PySem.W.Frag) (R S : Addr) : Sp := fun vs H Q _ => ∃ (M : Addr) (ps : Pcs) (row : Int), vs = [.ref M, .int row] ∧ H M = some (.lst (prefs ps)) ∧ PcsAt K R S H ps ∧ (∀ p ∈ ps, PcOk p.2) ∧ ps.length ≤ 100 ∧ row.natAbs < 2 ^ 3000 ∧ ∀ H', Same H H' → Q (.int ((upL row (psL ps)).length : Int)) H'
theorem ok_tto {f R S fR fS : Addr} {fd fdR fdS : FuncData} {k : Nat} (F : Fun K "total_to" "total_to" sTto f fd) (ms : mg "sum" = none) (TR : RunT K R) (TS : StripT K S)
    (OR : FnOk P w K mg base CX0 (k + 1) fR fdR ["self", "row"] (spRunC K R)) (mR : Meth K R "count_to" fR) (bR : Binds K fdR ["self", "row"] [])
    (OS : FnOk P w K mg base CX0 (k + 1) fS fdS ["self", "row"] (spStpC K S)) (mS : Meth K S "count_to" fS) (bS : Binds K fdS ["self", "row"] []) :
    FnOk P w K mg base CX0 (k + 1 + 1) f fd ["pieces", "row"] (spTto K R S) := by
  refine F.ok scTto (fun vs H Q E h => ?_) (fun cdv A outer s H vs Q E hr h => ?_)
  · obtain ⟨M, ps, row, rfl, _⟩ := h
    rfl
  · obtain ⟨M, ps, row, rfl, hM, hA, ok, lp, rb, q⟩ := h
    refine ⟨_, pss_one (ps_ret (pe_callB (cr_sum rfl) (by rfl) ms (by decide +kernel) (pa_cons (pe_lc (own := [("piece", 2)]) (g := gName 2) (tt := tYes) rfl scTto.nd (pi_list (pv 0)) (blkOk_by (N := nTto) (sc := defScope sTto) (by decide +kernel)) (fun _ _ _ _ _ => pg_name (i := 2) scTto.nd rfl (Or.inl rfl)) (fun _ _ _ _ _ => pts_nil)
        (fun _ _ _ _ _ => pe_or2 (pe_meth (pv 2) TR.cl mR OR hr bR .nil pass0 (pa_cons (pv 1) pa_nil)) (pe_meth (pv 2) TS.cl mS OS hr bS .nil pass0 (pa_cons (pv 1) pa_nil)))) pa_nil))), ?_⟩
    refine ⟨.ref M, rfl, M, rfl, ⟨_, SqL.of hM⟩, fun D nD => ?_⟩
    have lenV : ∀ j : Nat, (((ps.take j).map fun p => (((upL row (PcL p.2)).length : Nat) : Int)).map V.int).length ≤ j := fun j => by simp; omega
    refine lc_list (K := K) (a := M) (xs := prefs ps) (fun j H' => Same H H' ∧ H' D = some (.lst (((ps.take j).map fun p => (((upL row (PcL p.2)).length : Nat) : Int)).map V.int))) ⟨same_new nD, upd_same⟩ (fun j H' _ z => SqL.of (z.1 _ _ hM)) ?_ ?_
    · rintro j v H2 hv ⟨s2, hD⟩
      obtain ⟨⟨a, c⟩, hx, rfl⟩ := prefs_get hv
      have mx := List.mem_of_getElem? hx
      have lj := (List.getElem?_eq_some_iff.mp hx).1
      have at1 := (hA _ mx).same s2
      have ok1 := ok _ mx
      have fin : ∀ H3, Same H2 H3 → H3 D = some (.lst (((ps.take j).map fun p => (((upL row (PcL p.2)).length : Nat) : Int)).map V.int)) → Same H (upd H3 D (.lst (((ps.take j).map fun p => (((upL row (PcL p.2)).length : Nat) : Int)).map V.int ++ [V.int (((upL row (PcL c)).length : Nat) : Int)]))) ∧ (upd H3 D (.lst (((ps.take j).map fun p => (((upL row (PcL p.2)).length : Nat) : Int)).map V.int ++ [V.int (((upL row (PcL c)).length : Nat) : Int)]))) D = some (.lst (((ps.take (j + 1)).map fun p => (((upL row (PcL p.2)).length : Nat) : Int)).map V.int)) := fun H3 s3 hD3 => by
        refine ⟨same_upd nD (s2.trans s3), ?_⟩
        rw [upd_same, List.take_add_one, hx]
        simp
      have big : (((ps.take j).map fun p => (((upL row (PcL p.2)).length : Nat) : Int)).map V.int).length < sizeLine := Nat.lt_of_le_of_lt (lenV j) (Nat.lt_of_lt_of_le (show j < 100 by omega) (by decide))
      refine ⟨rfl, ?_⟩
      cases c with
      | run x y u v m =>
        obtain ⟨dx, t, st, hp, _⟩ := id (RunAt.at_ at1)
        exact Or.inl ⟨.ref a, rfl, a, dx, _, rfl, hp, rf_no (by decide +kernel) (by decide +kernel) (by decide +kernel), .int row, rfl, a, x, y, u, v, m, row, rfl, at1, ok1, _, hD, big, fin H2 (Same.refl _) hD⟩
      | strip b1 b2 l r =>
        obtain ⟨dx, lA, rA, hp, _⟩ := id (StripAt.at_ at1)
        refine Or.inr ⟨.ref a, rfl, a, dx, _, rfl, hp, sf_no (by decide +kernel) (by decide +kernel) (by decide +kernel) (by decide +kernel), .int row, rfl, a, b1, b2, l, r, row, rfl, at1, ok1, rb, fun H3 s3 => ?_⟩
        rw [← strip_up]
        exact ⟨_, s3 _ _ hD, big, fin H3 s3 (s3 _ _ hD)⟩
    · rintro H2 ⟨s2, hD⟩
      rw [prefs_len, List.take_length] at hD
      refine ⟨D, _, rfl, SqL.of hD, ?_⟩
      have := q H2 s2
      unfold psL at this
      rw [up_flat, Cnt.flat_len (fun p : Addr × Pc => upL row (PcL p.2)) (fun p => (((upL row (PcL p.2)).length : Nat) : Int)) ps fun p _ => rfl] at this
      exact this
end
end K12
set_option Elab.async false
set_option linter.all false
set_option maxRecDepth 100000
set_option maxHeartbeats 1000000
set_option exponentiation.threshold 20000
namespace K12
open PySem PySem.Spec PyProof.Rows L2 Fen
abbrev sRwc : Stmt := topS 56
abbrev sBlw : Stmt := topS 57
theorem scRwc : FnScope ["fence", "size", "row", "ends"] ["fence", "size", "row"] (defScope sRwc) := ⟨rfl, rfl, rfl, by decide +kernel, rfl, by decide +kernel, by decide +kernel⟩
theorem scBlw : FnScope ["fence", "size", "row"] ["fence", "size", "row"] (defScope sBlw) := ⟨rfl, rfl, rfl, by decide +kernel, rfl, by decide +kernel, by decide +kernel⟩
section
variable {P : Program} {w : World} {K : PySem.W.Frag} {mg : Str → Option Value} {base : Heap}
/-- the stakes of a row that belong, counted -/
def spRwc (K : PySem.W.Frag) : Sp := fun vs H Q _ => ∃ (t c o : Addr) (b n row : Int) (ks : Pts) (os : List Int), vs = [.ref t, .int n, .int row] ∧ FAt K H t c o b ks os ∧ IsF b (ks.map (·.2)) os ∧ 1 ≤ n ∧ n ≤ 10 ^ 30 ∧ row.natAbs < 2 ^ 3000 ∧
  ∀ (l : List Int) H', l.Nodup → (∀ px, px ∈ l ↔ Geo.Bel b n (ks.map (·.2)) os px row) → Same H H' → Q (.int (l.length : Int)) H'
theorem ok_rwc {f R S fC fS fR fE fF : Addr} {fd fdC fdS fdR fdE fdF : FuncData} {k : Nat} (F : Fun K "row_count" "row_count" sRwc f fd)
    (CC : Cal P w K mg base (k + 1) "check_fence" fC fdC ["value"] (spChk K)) (CS : Cal P w K mg base (k + 1) "check_size" fS fdS ["value"] spCkS) (CR : Cal P w K mg base (k + 1) "check_row" fR fdR ["value"] spCkR)
    (CE : Cal P w K mg base (k + 1) "ends_of" fE fdE ["pieces", "row"] (spEof K R S)) (CF : Cal P w K mg base (k + 1) "fence_pieces" fF fdF ["fence", "size"] (spFp K R S)) :
    FnOk P w K mg base CX0 (k + 1 + 1) f fd ["fence", "size", "row"] (spRwc K) := by
  refine F.ok scRwc (fun vs H Q E h => ?_) (fun cdv A outer s H vs Q E hr h => ?_)
  · obtain ⟨t, c, o, b, n, row, ks, os, rfl, _⟩ := h
    rfl
  · obtain ⟨t, c, o, b, n, row, ks, os, rfl, fa, isf, n1, n2, rb, q⟩ := h
    refine ⟨_, pss_cons (ps_expr (pe_cal CC hr (pa_cons (pv 0) pa_nil))) (pss_cons (ps_expr (pe_cal CS hr (pa_cons (pv 1) pa_nil))) (pss_cons (ps_expr (pe_cal CR hr (pa_cons (pv 2) pa_nil)))
      (pss_cons (ps_set (i := 3) scRwc.nd rfl (.inl rfl) (pe_cal CE hr (pa_cons (pe_cal CF hr (pa_cons (pv 0) (pa_cons (pv 1) pa_nil))) (pa_cons (pv 2) pa_nil))))
      (pss_cons (ps_if (pt_cmpR op_isN (pv 3) pe_non (nomark _)) (pss_one (ps_ret pe_int)) pss_nil)
      (pss_one (ps_ret (pe_op op_add (pe_op op_sub (pe_ix ix_tup (pv 3) pe_int (fun _ _ => rfl)) (pe_ix ix_tup (pv 3) pe_int (fun _ _ => rfl))) pe_int))))))), ?_⟩
    refine ⟨_, rfl, t, c, o, b, ks, os, rfl, fa, isf, fun H1 s1 => ?_⟩
    refine ⟨_, rfl, n, rfl, n1, n2, ?_⟩
    refine ⟨_, rfl, row, rfl, ?_⟩
    refine ⟨.ref t, rfl, .int n, rfl, t, c, o, b, n, ks, os, rfl, fa.same s1, isf, n1, n2, fun H2 M ps s2 nM hM hA ok sep lp iff => ?_⟩
    refine ⟨_, rfl, M, ps, row, rfl, hM, hA, ok, sep, rb, fun H3 s3 no => ?_, fun H3 z lo hi s3 hz le mem => ?_⟩
    · refine ⟨_, rfl, rfl, _, rfl, iteT ?_⟩
      exact q [] H3 List.nodup_nil (fun px => ⟨(fun z => nomatch z), fun z => absurd ((iff row px).mpr z) (no px)⟩) ((s1.trans s2).trans s3)
    · refine ⟨_, rfl, rfl, _, rfl, iteF ?_⟩
      refine ⟨.ref z, rfl, z, _, 1, .int hi, rfl, rfl, .inl (.inl hz), atI_nat (j := 1) rfl, .ref z, rfl, z, _, 0, .int lo, rfl, rfl, .inl (.inl hz), atI_nat (j := 0) rfl, _, _, rfl, rfl, _, _, rfl, rfl, ?_⟩
      have fin := q (Cnt.upto lo hi) H3 (Cnt.from_nodup _ _) (fun px => by rw [Cnt.mem_upto, ← mem px, iff row px]) ((s1.trans s2).trans s3)
      have e : ((Cnt.upto lo hi).length : Int) = hi - lo + 1 := by
        unfold Cnt.upto
        rw [Cnt.from_len]
        omega
      rw [e] at fin
      exact fin
/-- the stakes up to a row that belong, counted -/
def spBlw (K : PySem.W.Frag) : Sp := fun vs H Q _ => ∃ (t c o : Addr) (b n row : Int) (ks : Pts) (os : List Int), vs = [.ref t, .int n, .int row] ∧ FAt K H t c o b ks os ∧ IsF b (ks.map (·.2)) os ∧ 1 ≤ n ∧ n ≤ 10 ^ 30 ∧ row.natAbs < 2 ^ 3000 ∧
  ∀ (l : List Cnt.S) H', l.Nodup → (∀ px y, (px, y) ∈ l ↔ Geo.Bel b n (ks.map (·.2)) os px y ∧ y ≤ row) → Same H H' → Q (.int (l.length : Int)) H'
theorem ok_blw {f R S fC fS fR fE fF : Addr} {fd fdC fdS fdR fdE fdF : FuncData} {k : Nat} (F : Fun K "below_count" "below_count" sBlw f fd)
    (CC : Cal P w K mg base (k + 1) "check_fence" fC fdC ["value"] (spChk K)) (CS : Cal P w K mg base (k + 1) "check_size" fS fdS ["value"] spCkS) (CR : Cal P w K mg base (k + 1) "check_row" fR fdR ["value"] spCkR)
    (CE : Cal P w K mg base (k + 1) "total_to" fE fdE ["pieces", "row"] (spTto K R S)) (CF : Cal P w K mg base (k + 1) "fence_pieces" fF fdF ["fence", "size"] (spFp K R S)) :
    FnOk P w K mg base CX0 (k + 1 + 1) f fd ["fence", "size", "row"] (spBlw K) := by
  refine F.ok scBlw (fun vs H Q E h => ?_) (fun cdv A outer s H vs Q E hr h => ?_)
  · obtain ⟨t, c, o, b, n, row, ks, os, rfl, _⟩ := h
    rfl
  · obtain ⟨t, c, o, b, n, row, ks, os, rfl, fa, isf, n1, n2, rb, q⟩ := h
    refine ⟨_, pss_cons (ps_expr (pe_cal CC hr (pa_cons (pv 0) pa_nil))) (pss_cons (ps_expr (pe_cal CS hr (pa_cons (pv 1) pa_nil))) (pss_cons (ps_expr (pe_cal CR hr (pa_cons (pv 2) pa_nil)))
      (pss_one (ps_ret (pe_cal CE hr (pa_cons (pe_cal CF hr (pa_cons (pv 0) (pa_cons (pv 1) pa_nil))) (pa_cons (pv 2) pa_nil))))))), ?_⟩
    refine ⟨_, rfl, t, c, o, b, ks, os, rfl, fa, isf, fun H1 s1 => ?_⟩
    refine ⟨_, rfl, n, rfl, n1, n2, ?_⟩
    refine ⟨_, rfl, row, rfl, ?_⟩
    refine ⟨.ref t, rfl, .int n, rfl, t, c, o, b, n, ks, os, rfl, fa.same s1, isf, n1, n2, fun H2 M ps s2 nM hM hA ok sep lp iff => ?_⟩
    refine ⟨_, rfl, M, ps, row, rfl, hM, hA, ok, by have := isf.l2; rw [List.length_map] at this; omega, rb, fun H3 s3 => ?_⟩
    exact q _ H3 (up_nodup (psL_nodup ok sep)) (fun px y => by rw [mem_up, mem_psL ok, iff y px]) ((s1.trans s2).trans s3)
end
end K12
set_option Elab.async false
set_option linter.all false
set_option maxRecDepth 100000
set_option maxHeartbeats 1000000
/-! two sides of an outline share their common corner alone -/
namespace Geo
open Hull (P turn Lt)
open Fen (Out)
/-- one way of a place that is on two lines -/
theorem on_way {n c1 d1 X T1 T2 : Int} (hn : 0 < n) (u : c1 ≠ d1) (e : (n * d1 - X) * T1 + (X - n * c1) * T2 = 0) (bt : Bt (n * c1) (n * d1) X) (t1 : 0 ≤ T1) (t2 : 0 ≤ T2) (t : 0 < T1 ∨ 0 < T2) : (T1 = 0 ∧ X = n * c1) ∨ (T2 = 0 ∧ X = n * d1) := by
  have ne : n * c1 ≠ n * d1 := fun z => u (Int.eq_of_mul_eq_mul_left (by omega) z)
  have both : (n * d1 - X) * T1 = 0 ∧ (X - n * c1) * T2 = 0 := by
    rcases bt with ⟨b1, b2⟩ | ⟨b1, b2⟩
    · have z1 : 0 ≤ (n * d1 - X) * T1 := Int.mul_nonneg (by omega) t1
      have z2 : 0 ≤ (X - n * c1) * T2 := Int.mul_nonneg (by omega) t2
      omega
    · have z1 : (n * d1 - X) * T1 ≤ 0 := Int.mul_nonpos_of_nonpos_of_nonneg (by omega) t1
      have z2 : (X - n * c1) * T2 ≤ 0 := Int.mul_nonpos_of_nonpos_of_nonneg (by omega) t2
      omega
  obtain ⟨k1, k2⟩ := both
  rcases Int.mul_eq_zero.mp k1 with h1 | h1
  · rcases Int.mul_eq_zero.mp k2 with h2 | h2
    · omega
    · exact .inr ⟨h2, by omega⟩
  · rcases Int.mul_eq_zero.mp k2 with h2 | h2
    · exact .inl ⟨h1, by omega⟩
    · omega
variable {cs : List P} {i r : Nat} {a b c d : P}
theorem two_ends (h3 : 3 ≤ cs.length) (O : Out cs) (hr : r < cs.length) (ec : cs[r]? = some c) (ed : cs[(r + 1) % cs.length]? = some d) : c ≠ d := fun z => by
  subst z
  have h := Fen.left_count h3 O hr ec ed
  have e : (cs.filter fun x => decide (0 < turn c c x)) = [] := List.filter_eq_nil_iff.mpr fun x _ k => by
    have k2 : 0 < turn c c x := of_decide_eq_true k
    have : turn c c x = 0 := by unfold turn; grind
    omega
  rw [e, List.length_nil] at h
  omega
theorem nx_inj {m i r : Nat} (hi : i < m) (hr : r < m) (e : (i + 1) % m = (r + 1) % m) : i = r := by
  by_cases q : i + 1 < m
  · by_cases w : r + 1 < m
    · rw [Nat.mod_eq_of_lt q, Nat.mod_eq_of_lt w] at e
      omega
    · rw [Nat.mod_eq_of_lt q, show r + 1 = m by omega, Nat.mod_self] at e
      omega
  · by_cases w : r + 1 < m
    · rw [Nat.mod_eq_of_lt w, show i + 1 = m by omega, Nat.mod_self] at e
      omega
    · omega
/-- a place on two sides is their common corner -/
theorem on_two {n X Y : Int} (h3 : 3 ≤ cs.length) (O : Out cs) (hn : 0 < n) (hi : i < cs.length) (hr : r < cs.length) (ne : r ≠ i) (ea : cs[i]? = some a) (eb : cs[(i + 1) % cs.length]? = some b) (ec : cs[r]? = some c) (ed : cs[(r + 1) % cs.length]? = some d)
    (h1 : OnS n a b false false X Y) (h2 : OnS n c d false false X Y) : (r = (i + 1) % cs.length ∧ X = n * c.1 ∧ Y = n * c.2) ∨ ((r + 1) % cs.length = i ∧ X = n * d.1 ∧ Y = n * d.2) := by
  obtain ⟨f1, _⟩ := h1
  obtain ⟨f2, bx, b_y, _⟩ := h2
  obtain ⟨t1, t2, t⟩ := ends_left h3 O hi hr ne ea eb ec ed
  have cd := two_ends h3 O hr ec ed
  have ff0 : (b.1 - a.1) * (Y - n * a.2) - (b.2 - a.2) * (X - n * a.1) = 0 := by
    have : n * ((b.1 - a.1) * (Y - n * a.2) - (b.2 - a.2) * (X - n * a.1)) = 0 := by rw [← f1]; grind
    rcases Int.mul_eq_zero.mp this with z | z
    · omega
    · exact z
  have co : (d.1 - c.1) * (Y - n * c.2) = (d.2 - c.2) * (X - n * c.1) := by
    have : n * ((d.1 - c.1) * (Y - n * c.2) - (d.2 - c.2) * (X - n * c.1)) = 0 := by rw [← f2]; grind
    rcases Int.mul_eq_zero.mp this with z | z
    · omega
    · omega
  have ends : (turn a b c = 0 ∧ X = n * c.1 ∧ Y = n * c.2) ∨ (turn a b d = 0 ∧ X = n * d.1 ∧ Y = n * d.2) := by
    by_cases u : c.1 = d.1
    · have v : c.2 ≠ d.2 := fun z => cd (Prod.ext u z)
      have e : (n * d.2 - Y) * turn a b c + (Y - n * c.2) * turn a b d = 0 := by
        unfold turn
        grind
      rcases on_way hn v e b_y t1 t2 t with ⟨z1, z2⟩ | ⟨z1, z2⟩
      · refine .inl ⟨z1, ?_, z2⟩
        have : (d.2 - c.2) * (X - n * c.1) = 0 := by rw [← co, z2]; grind
        rcases Int.mul_eq_zero.mp this with w | w <;> omega
      · refine .inr ⟨z1, ?_, z2⟩
        have : (d.2 - c.2) * (X - n * c.1) = 0 := by rw [← co, u]; grind
        rcases Int.mul_eq_zero.mp this with w | w
        · omega
        · rw [← u]
          omega
    · have e : (n * d.1 - X) * turn a b c + (X - n * c.1) * turn a b d = 0 := by
        unfold turn
        grind
      rcases on_way hn u e bx t1 t2 t with ⟨z1, z2⟩ | ⟨z1, z2⟩
      · refine .inl ⟨z1, z2, ?_⟩
        have : (d.1 - c.1) * (Y - n * c.2) = 0 := by rw [co, z2]; grind
        rcases Int.mul_eq_zero.mp this with w | w <;> omega
      · refine .inr ⟨z1, z2, ?_⟩
        have : (d.1 - c.1) * (Y - n * d.2) = 0 := by
          have k : (d.1 - c.1) * (Y - n * d.2) = (d.1 - c.1) * (Y - n * c.2) - (d.1 - c.1) * (n * (d.2 - c.2)) := by grind
          rw [k, co, z2]
          grind
        rcases Int.mul_eq_zero.mp this with w | w <;> omega
  rcases ends with ⟨z, x, y⟩ | ⟨z, x, y⟩
  · refine .inl ⟨Classical.byContradiction fun k => ?_, x, y⟩
    have := O.left i r a b c hi hr ea eb ec ne k
    omega
  · refine .inr ⟨Classical.byContradiction fun k => ?_, x, y⟩
    have := O.left i _ a b d hi (nx_lt h3 r) ea eb ed k fun w => ne (nx_inj hr hi w)
    omega
end Geo
set_option Elab.async false
set_option linter.all false
set_option maxRecDepth 100000
set_option maxHeartbeats 1000000
/-! on a side of an outline: within it and on the side's line -/
namespace Geo
open Hull (P turn Lt)
open Fen (Out)
variable {cs : List P} {i : Nat} {a b : P}
theorem ff_seg {n X Y : Int} {a b c d : P} (co : (b.1 - a.1) * (Y - n * a.2) = (b.2 - a.2) * (X - n * a.1)) :
    (b.1 - a.1) * ff n c d X Y = (n * b.1 - X) * turn c d a + (X - n * a.1) * turn c d b ∧ (b.2 - a.2) * ff n c d X Y = (n * b.2 - Y) * turn c d a + (Y - n * a.2) * turn c d b := by
  unfold ff turn
  constructor <;> grind
theorem seg_nonneg {n a1 b1 X f t1 t2 : Int} (hn : 0 < n) (u : a1 ≠ b1) (e : (b1 - a1) * f = (n * b1 - X) * t1 + (X - n * a1) * t2) (bt : Bt (n * a1) (n * b1) X) (h1 : 0 ≤ t1) (h2 : 0 ≤ t2) : 0 ≤ f := by
  refine Classical.byContradiction fun k => ?_
  have fn : f < 0 := by omega
  rcases Int.lt_or_gt_of_ne u with l | l
  · have ll : n * a1 < n * b1 := Int.mul_lt_mul_of_pos_left l hn
    rcases bt with ⟨x1, x2⟩ | ⟨x1, x2⟩
    · have z1 : 0 ≤ (n * b1 - X) * t1 := Int.mul_nonneg (by omega) h1
      have z2 : 0 ≤ (X - n * a1) * t2 := Int.mul_nonneg (by omega) h2
      have z3 : (b1 - a1) * f < 0 := Int.mul_neg_of_pos_of_neg (by omega) fn
      omega
    · omega
  · have ll : n * b1 < n * a1 := Int.mul_lt_mul_of_pos_left l hn
    rcases bt with ⟨x1, x2⟩ | ⟨x1, x2⟩
    · omega
    · have z1 : (n * b1 - X) * t1 ≤ 0 := Int.mul_nonpos_of_nonpos_of_nonneg (by omega) h1
      have z2 : (X - n * a1) * t2 ≤ 0 := Int.mul_nonpos_of_nonpos_of_nonneg (by omega) h2
      have z3 : 0 < (b1 - a1) * f := Int.mul_pos_of_neg_of_neg (by omega) fn
      omega
/-- one way: ahead of the one end and behind the other -/
theorem seg_bt {n a1 b1 X f g t1 t2 : Int} (e1 : (b1 - a1) * f = (X - n * a1) * t1) (e2 : (b1 - a1) * g = (n * b1 - X) * t2) (f0 : 0 ≤ f) (g0 : 0 ≤ g) (h1 : 0 < t1) (h2 : 0 < t2) : Bt (n * a1) (n * b1) X := by
  unfold Bt
  rcases Int.le_total a1 b1 with l | l
  · left
    have z1 : 0 ≤ (b1 - a1) * f := Int.mul_nonneg (by omega) f0
    have z2 : 0 ≤ (b1 - a1) * g := Int.mul_nonneg (by omega) g0
    rw [e1] at z1
    rw [e2] at z2
    constructor
    · have := Int.nonneg_of_mul_nonneg_left z1 h1
      omega
    · have := Int.nonneg_of_mul_nonneg_left z2 h2
      omega
  · right
    have z1 : (b1 - a1) * f ≤ 0 := Int.mul_nonpos_of_nonpos_of_nonneg (by omega) f0
    have z2 : (b1 - a1) * g ≤ 0 := Int.mul_nonpos_of_nonpos_of_nonneg (by omega) g0
    rw [e1] at z1
    rw [e2] at z2
    constructor
    · refine Classical.byContradiction fun k => ?_
      have : 0 < (n * b1 - X) * t2 := Int.mul_pos (by omega) h2
      omega
    · refine Classical.byContradiction fun k => ?_
      have : 0 < (X - n * a1) * t1 := Int.mul_pos (by omega) h1
      omega
/-- on a side: within the outline, and on the side's line -/
theorem on_iff {n X Y : Int} (h3 : 3 ≤ cs.length) (O : Out cs) (hn : 0 < n) (hi : i < cs.length) (ea : cs[i]? = some a) (eb : cs[(i + 1) % cs.length]? = some b) :
    OnS n a b false false X Y ↔ InF n cs [] X Y ∧ ff n a b X Y = 0 := by
  have ab := two_ends h3 O hi ea eb
  constructor
  · rintro ⟨f1, bx, b_y, _⟩
    have co : (b.1 - a.1) * (Y - n * a.2) = (b.2 - a.2) * (X - n * a.1) := by
      have : n * ((b.1 - a.1) * (Y - n * a.2) - (b.2 - a.2) * (X - n * a.1)) = 0 := by rw [← f1]; grind
      rcases Int.mul_eq_zero.mp this with z | z <;> omega
    have ff0 : ff n a b X Y = 0 := by unfold ff; omega
    refine ⟨fun r c d hr ec ed => ⟨?_, fun z => (nomatch z)⟩, ff0⟩
    by_cases e : i = r
    · subst e
      rw [ea] at ec
      rw [eb] at ed
      cases ec
      cases ed
      omega
    · obtain ⟨t1, t2, _⟩ := ends_left h3 O hr hi e ec ed ea eb
      obtain ⟨s1, s2⟩ := ff_seg (c := c) (d := d) co
      by_cases u : a.1 = b.1
      · exact seg_nonneg hn (fun z => ab (Prod.ext u z)) s2 b_y t1 t2
      · exact seg_nonneg hn u s1 bx t1 t2
  · rintro ⟨inf, ff0⟩
    have lp : (i + (cs.length - 1)) % cs.length < cs.length := Nat.mod_lt _ (by omega)
    have en : ((i + (cs.length - 1)) % cs.length + 1) % cs.length = i := by
      rw [Nat.mod_add_mod, show i + (cs.length - 1) + 1 = i + cs.length by omega, Nat.add_mod_right, Nat.mod_eq_of_lt hi]
    obtain ⟨p, ep⟩ : ∃ p, cs[(i + (cs.length - 1)) % cs.length]? = some p := ⟨_, List.getElem?_eq_getElem lp⟩
    obtain ⟨q, eq⟩ : ∃ q, cs[((i + 1) % cs.length + 1) % cs.length]? = some q := ⟨_, List.getElem?_eq_getElem (nx_lt h3 _)⟩
    have g1 := (inf _ p a lp ep (by rw [en]; exact ea)).1
    have g2 := (inf _ b q (nx_lt h3 i) eb eq).1
    have nn := nx_ne h3 hi
    have np : (i + (cs.length - 1)) % cs.length ≠ i := fun z => by
      have := nx_ne h3 lp
      rw [en, z] at this
      exact this rfl
    have t1 : 0 < turn p a b := by
      refine O.left _ ((i + 1) % cs.length) p a b lp (nx_lt h3 i) ep (by rw [en]; exact ea) eb (fun z => ?_) (by rw [en]; exact nn)
      exact nx_two h3 hi lp z.symm en
    have t2 : 0 < turn b q a := by
      refine O.left _ i b q a (nx_lt h3 i) hi eb eq ea (fun z => nn z.symm) (fun z => ?_)
      exact nx_two h3 hi (nx_lt h3 i) rfl z.symm
    have co : (b.1 - a.1) * (Y - n * a.2) = (b.2 - a.2) * (X - n * a.1) := by unfold ff at ff0; omega
    have z0 : turn p a a = 0 := by unfold turn; grind
    have z1 : turn b q b = 0 := by unfold turn; grind
    obtain ⟨s1, s2⟩ := ff_seg (c := p) (d := a) co
    obtain ⟨s3, s4⟩ := ff_seg (c := b) (d := q) co
    rw [z0, Int.mul_zero, Int.zero_add] at s1 s2
    rw [z1, Int.mul_zero, Int.add_zero] at s3 s4
    refine ⟨?_, seg_bt s1 s3 g1 g2 t1 t2, seg_bt s2 s4 g1 g2 t1 t2, fun z => (nomatch z), fun z => (nomatch z)⟩
    have k : (n * b.1 - n * a.1) * (Y - n * a.2) - (n * b.2 - n * a.2) * (X - n * a.1) = n * ((b.1 - a.1) * (Y - n * a.2) - (b.2 - a.2) * (X - n * a.1)) := by grind
    rw [k, co, Int.sub_self, Int.mul_zero]
end Geo
set_option Elab.async false
set_option linter.all false
set_option maxRecDepth 100000
set_option maxHeartbeats 1000000
/-! a row of a field by the sides that it meets -/
namespace Geo
open Hull (P turn Lt)
open Fen (Out)
variable {cs : List P}
/-- both heights that a side has, around a row -/
def Spn (n : Int) (a c : P) (Y : Int) : Prop := (n * a.2 ≤ Y ∧ Y ≤ n * c.2) ∨ (n * c.2 ≤ Y ∧ Y ≤ n * a.2)
theorem turn_ge (h3 : 3 ≤ cs.length) (O : Out cs) {i j : Nat} {p q a : P} (hi : i < cs.length) (ep : cs[i]? = some p) (eq : cs[(i + 1) % cs.length]? = some q) (ea : cs[j]? = some a) : 0 ≤ turn p q a := by
  have hj := (List.getElem?_eq_some_iff.mp ea).1
  by_cases h1 : j = i
  · subst h1
    rw [ep] at ea
    cases ea
    rw [Hull.turn_aba]
    omega
  by_cases h2 : j = (i + 1) % cs.length
  · subst h2
    rw [eq] at ea
    cases ea
    rw [show turn p q q = 0 by unfold turn; grind]
    omega
  · have := O.left i j p q a hi hj ep eq ea h1 h2
    omega
/-- not all corners have one height -/
theorem two_heights (h3 : 3 ≤ cs.length) (O : Out cs) (h : Int) : ∃ c ∈ cs, c.2 ≠ h := by
  refine Classical.byContradiction fun k => ?_
  have all : ∀ c ∈ cs, c.2 = h := fun c hc => Classical.byContradiction fun z => k ⟨c, hc, z⟩
  obtain ⟨a, ea⟩ : ∃ a, cs[0]? = some a := ⟨_, List.getElem?_eq_getElem (by omega)⟩
  obtain ⟨b, eb⟩ : ∃ b, cs[(0 + 1) % cs.length]? = some b := ⟨_, List.getElem?_eq_getElem (nx_lt h3 0)⟩
  obtain ⟨d, ed⟩ : ∃ d, cs[2]? = some d := ⟨_, List.getElem?_eq_getElem (by omega)⟩
  have n1 : (0 + 1) % cs.length = 1 := Nat.mod_eq_of_lt (by omega)
  have t := O.left 0 2 a b d (by omega) (by omega) ea eb ed (by omega) (by rw [n1]; omega)
  have h1 := all a (List.mem_of_getElem? ea)
  have h2 := all b (List.mem_of_getElem? eb)
  have h4 := all d (List.mem_of_getElem? ed)
  unfold turn at t
  rw [h1, h2, h4] at t
  simp at t
theorem span_pred {n X Y : Int} (h3 : 3 ≤ cs.length) (O : Out cs) (hn : 0 < n) (h : InF n cs [] X Y) :
    ∃ A : P → Prop, (∃ c ∈ cs, A c) ∧ (∃ c ∈ cs, ¬ A c) ∧ ∀ c, (A c → Y ≤ n * c.2) ∧ (¬ A c → n * c.2 ≤ Y) ∧ ∀ d, A c → ¬ A d → d.2 < c.2 := by
  obtain ⟨h1, h2⟩ := h.heights h3 O (by omega)
  by_cases up : ∃ c ∈ cs, Y < n * c.2
  · refine ⟨fun c => Y < n * c.2, up, ?_, fun c => ⟨fun z => by omega, fun z => by omega, fun d z1 z2 => ?_⟩⟩
    · refine Classical.byContradiction fun k => ?_
      have all : ∀ c ∈ cs, Y < n * c.2 := fun c hc => Classical.byContradiction fun z => k ⟨c, hc, z⟩
      have := h2 ((Y + n) / n) fun c hc => by
        have := all c hc
        have e : (Y + n) / n = Y / n + 1 := Int.add_ediv_of_dvd_right (Int.dvd_refl n) |>.trans (by rw [Int.ediv_self (by omega)])
        rw [e]
        have : Y / n < c.2 := Int.ediv_lt_of_lt_mul hn (by rw [Int.mul_comm]; exact this)
        omega
      have e2 := Int.emod_add_mul_ediv (Y + n) n
      have e3 := Int.emod_lt_of_pos (Y + n) hn
      omega
    · refine Classical.byContradiction fun k => ?_
      have : n * c.2 ≤ n * d.2 := Int.mul_le_mul_of_nonneg_left (by omega) (by omega)
      simp only at z1 z2
      omega
  · have all : ∀ c ∈ cs, n * c.2 ≤ Y := fun c hc => by
      refine Classical.byContradiction fun z => up ⟨c, hc, by omega⟩
    refine ⟨fun c => Y ≤ n * c.2, ?_, ?_, fun c => ⟨fun z => z, fun z => by omega, fun d z1 z2 => ?_⟩⟩
    · refine Classical.byContradiction fun k => ?_
      have low : ∀ c ∈ cs, n * c.2 < Y := fun c hc => by
        refine Classical.byContradiction fun z => k ⟨c, hc, by omega⟩
      have := h1 ((Y - 1) / n) fun c hc => by
        have := low c hc
        rw [Int.le_ediv_iff_mul_le hn, Int.mul_comm]
        omega
      have e2 := Int.mul_ediv_self_le (x := Y - 1) (k := n) (by omega)
      omega
    · refine Classical.byContradiction fun k => ?_
      have eqv : ∀ c ∈ cs, Y = n * c.2 := fun c hc => by
        have z1 := all c hc
        have z2 : Y ≤ n * c.2 := Classical.byContradiction fun z => k ⟨c, hc, z⟩
        omega
      obtain ⟨a, ea⟩ : ∃ a, cs[0]? = some a := ⟨_, List.getElem?_eq_getElem (by omega)⟩
      obtain ⟨c, hc, ne⟩ := two_heights h3 O a.2
      have q1 := eqv a (List.mem_of_getElem? ea)
      have q2 := eqv c hc
      exact ne (Int.eq_of_mul_eq_mul_left (show n ≠ 0 by omega) (q2.symm.trans q1))
    · refine Classical.byContradiction fun k => ?_
      have : n * c.2 ≤ n * d.2 := Int.mul_le_mul_of_nonneg_left (by omega) (by omega)
      simp only at z1 z2
      omega
/-- a side that leads down, and one that leads up, around the row of a place -/
theorem span_two {n X Y : Int} (h3 : 3 ≤ cs.length) (O : Out cs) (hn : 0 < n) (h : InF n cs [] X Y) :
    (∃ i a c, i < cs.length ∧ cs[i]? = some a ∧ cs[(i + 1) % cs.length]? = some c ∧ n * c.2 ≤ Y ∧ Y ≤ n * a.2 ∧ c.2 < a.2) ∧
    (∃ i a c, i < cs.length ∧ cs[i]? = some a ∧ cs[(i + 1) % cs.length]? = some c ∧ n * a.2 ≤ Y ∧ Y ≤ n * c.2 ∧ a.2 < c.2) := by
  obtain ⟨A, ⟨x, mx, hx⟩, ⟨y, my, hy⟩, k⟩ := span_pred h3 O hn h
  obtain ⟨i, ei⟩ := List.mem_iff_getElem?.mp mx
  obtain ⟨j, ej⟩ := List.mem_iff_getElem?.mp my
  constructor
  · obtain ⟨r, c, d, hr, ec, ed, z1, z2⟩ := around A ei ej hx hy
    exact ⟨r, c, d, hr, ec, ed, (k d).2.1 z2, (k c).1 z1, (k c).2.2 d z1 z2⟩
  · obtain ⟨r, c, d, hr, ec, ed, z1, z2⟩ := around (fun p => ¬ A p) ej ei hy (fun z => z hx)
    have z2' : A d := Classical.byContradiction z2
    exact ⟨r, c, d, hr, ec, ed, (k c).2.1 z1, (k d).1 z2', (k d).2.2 c z2' z1⟩
/-- where a row meets a side: a place to the side as top / under -/
def Cr (b n : Int) (a c : P) (Y t u : Int) : Prop := Spn n a c Y ∧
  ((a.2 = c.2 ∧ u = b ∧ (t = n * a.1 ∨ t = n * c.1)) ∨
   (a.2 < c.2 ∧ t = (Y - n * a.2) * (n * c.1 - n * a.1) + n * a.1 * (n * c.2 - n * a.2) ∧ u = b * (n * c.2 - n * a.2)) ∨
   (c.2 < a.2 ∧ t = -((Y - n * a.2) * (n * c.1 - n * a.1) + n * a.1 * (n * c.2 - n * a.2)) ∧ u = -(b * (n * c.2 - n * a.2))))
theorem grow_lt {n a c : Int} (hn : 0 < n) (h : a < c) : 0 < n * c - n * a := by
  have := Int.mul_lt_mul_of_pos_left h hn
  omega
theorem Cr.pos {b n Y t u : Int} {a c : P} (hb : 0 < b) (hn : 0 < n) (h : Cr b n a c Y t u) : 0 < u := by
  obtain ⟨_, ⟨_, rfl, _⟩ | ⟨l, _, rfl⟩ | ⟨l, _, rfl⟩⟩ := h
  · exact hb
  · exact Int.mul_pos hb (grow_lt hn l)
  · have := Int.mul_pos hb (grow_lt hn l)
    have e : b * (n * c.2 - n * a.2) = -(b * (n * a.2 - n * c.2)) := by grind
    omega
/-- the sides around it say where a place is -/
theorem Cr.down {b n px Y t u : Int} {a c : P} (hn : 0 < n) (l : c.2 < a.2) (h : Cr b n a c Y t u) : t ≤ px * u ↔ 0 ≤ ff n a c (b * px) Y := by
  obtain ⟨_, ⟨e, _⟩ | ⟨e, _⟩ | ⟨_, rfl, rfl⟩⟩ := h
  · omega
  · omega
  · have k : px * -(b * (n * c.2 - n * a.2)) - -((Y - n * a.2) * (n * c.1 - n * a.1) + n * a.1 * (n * c.2 - n * a.2)) = n * ff n a c (b * px) Y := by
      unfold ff
      grind
    constructor
    · intro z
      refine Classical.byContradiction fun w => ?_
      have : n * ff n a c (b * px) Y < 0 := Int.mul_neg_of_pos_of_neg hn (by omega)
      omega
    · intro z
      have := Int.mul_nonneg (show 0 ≤ n by omega) z
      omega
theorem Cr.upw {b n px Y t u : Int} {a c : P} (hn : 0 < n) (l : a.2 < c.2) (h : Cr b n a c Y t u) : px * u ≤ t ↔ 0 ≤ ff n a c (b * px) Y := by
  obtain ⟨_, ⟨e, _⟩ | ⟨_, rfl, rfl⟩ | ⟨e, _⟩⟩ := h
  · omega
  · have k : (Y - n * a.2) * (n * c.1 - n * a.1) + n * a.1 * (n * c.2 - n * a.2) - px * (b * (n * c.2 - n * a.2)) = n * ff n a c (b * px) Y := by
      unfold ff
      grind
    constructor
    · intro z
      refine Classical.byContradiction fun w => ?_
      have : n * ff n a c (b * px) Y < 0 := Int.mul_neg_of_pos_of_neg hn (by omega)
      omega
    · intro z
      have := Int.mul_nonneg (show 0 ≤ n by omega) z
      omega
  · omega
/-- where the row meets the outline no side is right of -/
theorem Cr.side {b n Y t u : Int} {a c p q : P} (hb : 0 < b) (hn : 0 < n) (h : Cr b n a c Y t u) (ta : 0 ≤ turn p q a) (tc : 0 ≤ turn p q c) :
    0 ≤ u * ((q.1 - p.1) * (Y - n * p.2)) - (q.2 - p.2) * (b * t - u * (n * p.1)) := by
  obtain ⟨sp, ⟨e, rfl, et⟩ | ⟨l, rfl, rfl⟩ | ⟨l, rfl, rfl⟩⟩ := h
  · have eY : Y = n * a.2 := by
      unfold Spn at sp
      rw [← e] at sp
      omega
    subst eY
    rcases et with rfl | rfl
    · have : u * ((q.1 - p.1) * (n * a.2 - n * p.2)) - (q.2 - p.2) * (u * (n * a.1) - u * (n * p.1)) = u * n * turn p q a := by
        unfold turn
        grind
      rw [this]
      exact Int.mul_nonneg (Int.mul_nonneg (by omega) (by omega)) ta
    · have : u * ((q.1 - p.1) * (n * a.2 - n * p.2)) - (q.2 - p.2) * (u * (n * c.1) - u * (n * p.1)) = u * n * turn p q c := by
        unfold turn
        grind
      rw [this]
      exact Int.mul_nonneg (Int.mul_nonneg (by omega) (by omega)) tc
  · have sp' : n * a.2 ≤ Y ∧ Y ≤ n * c.2 := by
      have := grow_lt hn l
      unfold Spn at sp
      omega
    have : b * (n * c.2 - n * a.2) * ((q.1 - p.1) * (Y - n * p.2)) - (q.2 - p.2) * (b * ((Y - n * a.2) * (n * c.1 - n * a.1) + n * a.1 * (n * c.2 - n * a.2)) - b * (n * c.2 - n * a.2) * (n * p.1)) = b * n * ((n * c.2 - Y) * turn p q a + (Y - n * a.2) * turn p q c) := by
      unfold turn
      grind
    rw [this]
    exact Int.mul_nonneg (Int.mul_nonneg (by omega) (by omega)) (Int.add_nonneg (Int.mul_nonneg (by omega) ta) (Int.mul_nonneg (by omega) tc))
  · have sp' : n * c.2 ≤ Y ∧ Y ≤ n * a.2 := by
      have := grow_lt hn l
      unfold Spn at sp
      omega
    have : -(b * (n * c.2 - n * a.2)) * ((q.1 - p.1) * (Y - n * p.2)) - (q.2 - p.2) * (b * -((Y - n * a.2) * (n * c.1 - n * a.1) + n * a.1 * (n * c.2 - n * a.2)) - -(b * (n * c.2 - n * a.2)) * (n * p.1)) = b * n * ((Y - n * c.2) * turn p q a + (n * a.2 - Y) * turn p q c) := by
      unfold turn
      grind
    rw [this]
    exact Int.mul_nonneg (Int.mul_nonneg (by omega) (by omega)) (Int.add_nonneg (Int.mul_nonneg (by omega) ta) (Int.mul_nonneg (by omega) tc))
/-- the row meets some side of an outline there -/
def Mt (b n : Int) (cs : List P) (Y t u : Int) : Prop := ∃ i a c, i < cs.length ∧ cs[i]? = some a ∧ cs[(i + 1) % cs.length]? = some c ∧ Cr b n a c Y t u
theorem cr_ex {b n Y : Int} {a c : P} (h : Spn n a c Y) : ∃ t u, Cr b n a c Y t u := by
  rcases Int.lt_trichotomy a.2 c.2 with l | l | l
  · exact ⟨_, _, h, .inr (.inl ⟨l, rfl, rfl⟩)⟩
  · exact ⟨_, _, h, .inl ⟨l, rfl, .inl rfl⟩⟩
  · exact ⟨_, _, h, .inr (.inr ⟨l, rfl, rfl⟩)⟩
/-- a row of a closed field: between where it meets sides -/
theorem row_field {b n px Y : Int} (h3 : 3 ≤ cs.length) (O : Out cs) (hb : 0 < b) (hn : 0 < n) :
    InF n cs [] (b * px) Y ↔ (∃ t u, Mt b n cs Y t u ∧ t ≤ px * u) ∧ ∃ t u, Mt b n cs Y t u ∧ px * u ≤ t := by
  constructor
  · intro h
    obtain ⟨⟨i, a, c, hi, ea, ec, h1, h2, l⟩, ⟨j, a', c', hj, ea', ec', h1', h2', l'⟩⟩ := span_two h3 O hn h
    obtain ⟨t, u, k⟩ := cr_ex (b := b) (n := n) (a := a) (c := c) (.inr ⟨h1, h2⟩)
    obtain ⟨t', u', k'⟩ := cr_ex (b := b) (n := n) (a := a') (c := c') (.inl ⟨h1', h2'⟩)
    exact ⟨⟨t, u, ⟨i, a, c, hi, ea, ec, k⟩, (k.down hn l).mpr (h i a c hi ea ec).1⟩, ⟨t', u', ⟨j, a', c', hj, ea', ec', k'⟩, (k'.upw hn l').mpr (h j a' c' hj ea' ec').1⟩⟩
  · rintro ⟨⟨t1, u1, ⟨i, a, c, hi, ea, ec, k1⟩, le1⟩, ⟨t2, u2, ⟨j, a', c', hj, ea', ec', k2⟩, le2⟩⟩
    refine fun r p q hr ep eq => ⟨?_, fun z => nomatch z⟩
    have g1 := k1.side hb hn (turn_ge h3 O hr ep eq ea) (turn_ge h3 O hr ep eq ec)
    have g2 := k2.side hb hn (turn_ge h3 O hr ep eq ea') (turn_ge h3 O hr ep eq ec')
    have p1 := k1.pos hb hn
    have p2 := k2.pos hb hn
    by_cases up : 0 ≤ q.2 - p.2
    · have e : u2 * ff n p q (b * px) Y = u2 * ((q.1 - p.1) * (Y - n * p.2)) - (q.2 - p.2) * (b * t2 - u2 * (n * p.1)) + b * ((q.2 - p.2) * (t2 - px * u2)) := by
        unfold ff
        grind
      have z : 0 ≤ b * ((q.2 - p.2) * (t2 - px * u2)) := Int.mul_nonneg (by omega) (Int.mul_nonneg up (by omega))
      refine Classical.byContradiction fun w => ?_
      have : u2 * ff n p q (b * px) Y < 0 := Int.mul_neg_of_pos_of_neg p2 (by omega)
      omega
    · have e : u1 * ff n p q (b * px) Y = u1 * ((q.1 - p.1) * (Y - n * p.2)) - (q.2 - p.2) * (b * t1 - u1 * (n * p.1)) + b * ((p.2 - q.2) * (px * u1 - t1)) := by
        unfold ff
        grind
      have z : 0 ≤ b * ((p.2 - q.2) * (px * u1 - t1)) := Int.mul_nonneg (by omega) (Int.mul_nonneg (by omega) (by omega))
      refine Classical.byContradiction fun w => ?_
      have : u1 * ff n p q (b * px) Y < 0 := Int.mul_neg_of_pos_of_neg p1 (by omega)
      omega
/-- strictly between two places of a row: on no open side, if one place between is on none -/
theorem row_open {b n Y l r px x0 : Int} {os : List Int} (hb : 0 < b) (hl : InF n cs [] (b * l) Y) (hr : InF n cs [] (b * r) Y) (h0 : InF n cs os (b * x0) Y) (l0 : l ≤ x0) (r0 : x0 ≤ r) (lp : l < px) (pr : px < r) : InF n cs os (b * px) Y := fun i a c hi ea ec => by
  obtain ⟨f1, _⟩ := hl i a c hi ea ec
  obtain ⟨f2, _⟩ := hr i a c hi ea ec
  obtain ⟨_, f3⟩ := h0 i a c hi ea ec
  have e : (r - l) * ff n a c (b * px) Y = (r - px) * ff n a c (b * l) Y + (px - l) * ff n a c (b * r) Y := by
    unfold ff
    grind
  have e0 : (r - l) * ff n a c (b * x0) Y = (r - x0) * ff n a c (b * l) Y + (x0 - l) * ff n a c (b * r) Y := by
    unfold ff
    grind
  have z1 : 0 ≤ (r - px) * ff n a c (b * l) Y := Int.mul_nonneg (by omega) f1
  have z2 : 0 ≤ (px - l) * ff n a c (b * r) Y := Int.mul_nonneg (by omega) f2
  constructor
  · refine Classical.byContradiction fun w => ?_
    have : (r - l) * ff n a c (b * px) Y < 0 := Int.mul_neg_of_pos_of_neg (by omega) (by omega)
    omega
  · intro ho
    have g := f3 ho
    refine Classical.byContradiction fun w => ?_
    have : (r - l) * ff n a c (b * px) Y ≤ 0 := Int.mul_nonpos_of_nonneg_of_nonpos (by omega) (by omega)
    have y1 : ff n a c (b * l) Y = 0 := by
      have : (r - px) * ff n a c (b * l) Y = 0 := by omega
      rcases Int.mul_eq_zero.mp this with z | z <;> omega
    have y2 : ff n a c (b * r) Y = 0 := by
      have : (px - l) * ff n a c (b * r) Y = 0 := by omega
      rcases Int.mul_eq_zero.mp this with z | z <;> omega
    rw [y1, y2, Int.mul_zero, Int.mul_zero, Int.add_zero] at e0
    have : 0 < (r - l) * ff n a c (b * x0) Y := Int.mul_pos (by omega) g
    omega
end Geo
set_option Elab.async false
set_option linter.all false
set_option maxRecDepth 100000
set_option maxHeartbeats 1000000
set_option exponentiation.threshold 20000
namespace K12
open PySem PySem.Spec PyProof.Rows L2 Fen
theorem isf_out {b : Int} {cs : List Hull.P} {os : List Int} (isf : IsF b cs os) (h3 : 3 ≤ cs.length) : Out cs := by
  rcases isf.sh with z | ⟨a, d, z, _⟩ | z
  · omega
  · have := congrArg List.length z
    simp at this
    omega
  · exact z.2
theorem mt_one {b n Y t u : Int} {p : Hull.P} : Geo.Mt b n [p] Y t u ↔ Y = n * p.2 ∧ u = b ∧ t = n * p.1 := by
  constructor
  · rintro ⟨i, a, c, hi, ea, ec, sp, k⟩
    have i0 : i = 0 := by simp at hi; omega
    subst i0
    have e1 : (0 + 1) % ([p] : List Hull.P).length = 0 := by simp
    rw [e1] at ec
    cases ea
    cases ec
    unfold Geo.Spn at sp
    rcases k with ⟨_, rfl, h | h⟩ | ⟨h, _⟩ | ⟨h, _⟩
    · exact ⟨by omega, rfl, h⟩
    · exact ⟨by omega, rfl, h⟩
    · omega
    · omega
  · rintro ⟨rfl, rfl, rfl⟩
    exact ⟨0, p, p, by simp, rfl, by simp, .inl ⟨Int.le_refl _, Int.le_refl _⟩, .inl ⟨rfl, rfl, .inl rfl⟩⟩
/-- across, times n, from the first end -/
def Zz (b n : Int) (p q : Hull.P) (px Y : Int) : Int := (n * q.2 - n * p.2) * (b * px - n * p.1) - (n * q.1 - n * p.1) * (Y - n * p.2)
theorem mt_two {b n Y t u : Int} {p q : Hull.P} (hb : 0 < b) (hn : 0 < n) (h : Geo.Mt b n [p, q] Y t u) : Geo.Spn n p q Y ∧ ((p.2 = q.2 ∧ u = b ∧ (t = n * p.1 ∨ t = n * q.1)) ∨ (p.2 < q.2 ∧ ∀ px, px * u - t = Zz b n p q px Y) ∨ (q.2 < p.2 ∧ ∀ px, px * u - t = -Zz b n p q px Y)) := by
  obtain ⟨i, a, c, hi, ea, ec, sp, k⟩ := h
  have : i = 0 ∨ i = 1 := by simp at hi; omega
  rcases this with rfl | rfl
  · cases ea
    cases ec
    refine ⟨sp, ?_⟩
    rcases k with ⟨e, rfl, h⟩ | ⟨e, rfl, rfl⟩ | ⟨e, rfl, rfl⟩
    · exact .inl ⟨e, rfl, h⟩
    · exact .inr (.inl ⟨e, fun px => by unfold Zz; grind⟩)
    · exact .inr (.inr ⟨e, fun px => by unfold Zz; grind⟩)
  · have e1 : (1 + 1) % ([p, q] : List Hull.P).length = 0 := by simp
    rw [e1] at ec
    cases ea
    cases ec
    refine ⟨by unfold Geo.Spn at *; omega, ?_⟩
    rcases k with ⟨e, rfl, h⟩ | ⟨e, rfl, rfl⟩ | ⟨e, rfl, rfl⟩
    · exact .inl ⟨e.symm, rfl, h.symm⟩
    · exact .inr (.inr ⟨e, fun px => by unfold Zz; grind⟩)
    · exact .inr (.inl ⟨e, fun px => by unfold Zz; grind⟩)
theorem onS_zz {b n px Y : Int} {p q : Hull.P} (hn : 0 < n) (ne : p.2 ≠ q.2) : Geo.OnS n p q false false (b * px) Y ↔ Geo.Spn n p q Y ∧ Zz b n p q px Y = 0 := by
  unfold Geo.OnS Geo.Spn Zz
  constructor
  · rintro ⟨h1, _, h3, _⟩
    exact ⟨h3, by omega⟩
  · rintro ⟨h3, z⟩
    have e0 : n * ((q.2 - p.2) * (b * px - n * p.1) - (q.1 - p.1) * (Y - n * p.2)) = 0 := by rw [← z]; grind
    have e1 : (q.2 - p.2) * (b * px - n * p.1) - (q.1 - p.1) * (Y - n * p.2) = 0 := by
      rcases Int.mul_eq_zero.mp e0 with w | w
      · omega
      · exact w
    refine ⟨by omega, ?_, h3, fun w => (nomatch w), fun w => (nomatch w)⟩
    rcases Int.lt_or_gt_of_ne ne with l | l
    · have g := Geo.grow_lt hn l
      have bs := Geo.bt_slant (dx := q.1 - p.1) (dy := q.2 - p.2) (u := b * px - n * p.1) (v := Y - n * p.2) (N := n) (by omega) (by omega) (by omega) (by rw [Int.mul_sub]; omega)
      unfold Geo.Bt at *
      have : n * (q.1 - p.1) = n * q.1 - n * p.1 := Int.mul_sub ..
      omega
    · have g := Geo.grow_lt hn l
      have e2 : (p.1 - q.1) * (Y - n * q.2) = (p.2 - q.2) * (b * px - n * q.1) := by grind
      have bs := Geo.bt_slant (dx := p.1 - q.1) (dy := p.2 - q.2) (u := b * px - n * q.1) (v := Y - n * q.2) (N := n) (by omega) e2 (by omega) (by rw [Int.mul_sub]; omega)
      unfold Geo.Bt at *
      have : n * (p.1 - q.1) = n * p.1 - n * q.1 := Int.mul_sub ..
      omega
/-- a row of a closed fence: between where it meets sides -/
theorem row_bel {b n px row : Int} {cs : List Hull.P} {os : List Int} (isf : IsF b cs os) (hn : 0 < n) : Geo.Bel b n cs [] px row ↔ (∃ t u, Geo.Mt b n cs (b * row) t u ∧ t ≤ px * u) ∧ ∃ t u, Geo.Mt b n cs (b * row) t u ∧ px * u ≤ t := by
  have hb : 0 < b := by have := isf.b1; omega
  by_cases l3 : 3 ≤ cs.length
  · rw [← Geo.row_field l3 (isf_out isf l3) hb hn]
    exact ⟨fun h => by
      rcases h with ⟨z, _⟩ | ⟨_, z⟩
      · omega
      · exact z, fun h => .inr ⟨l3, h⟩⟩
  rcases isf.sh with h1 | ⟨p, q, rfl, lt⟩ | h3
  · match cs, h1 with
    | [p], _ =>
      rw [bel_one]
      constructor
      · rintro ⟨e1, e2⟩
        have m : Geo.Mt b n [p] (b * row) (n * p.1) b := mt_one.mpr ⟨e2, rfl, rfl⟩
        exact ⟨⟨_, _, m, by rw [← e1, Int.mul_comm]; exact Int.le_refl _⟩, ⟨_, _, m, by rw [← e1, Int.mul_comm]; exact Int.le_refl _⟩⟩
      · rintro ⟨⟨t, u, m, h⟩, ⟨t', u', m', h'⟩⟩
        obtain ⟨e1, rfl, rfl⟩ := mt_one.mp m
        obtain ⟨_, rfl, rfl⟩ := mt_one.mp m'
        rw [Int.mul_comm px] at h h'
        exact ⟨by omega, e1⟩
  · rw [bel_two hn lt]
    show Geo.OnS n p q false false (b * px) (b * row) ↔ _
    have ex : ∀ Y, Geo.Spn n p q Y → ∃ t u, Geo.Mt b n [p, q] Y t u := fun Y h => by
      obtain ⟨t, u, k⟩ := Geo.cr_ex (b := b) h
      exact ⟨t, u, 0, p, q, by simp, rfl, rfl, k⟩
    by_cases e : p.2 = q.2
    · have l1 : p.1 < q.1 := by unfold Hull.Lt at lt; omega
      have g := Geo.grow_lt hn l1
      have m0 : ∀ t, (t = n * p.1 ∨ t = n * q.1) → b * row = n * p.2 → Geo.Mt b n [p, q] (b * row) t b := fun t ht h => by
        refine ⟨0, p, q, by simp, rfl, rfl, .inl ?_, .inl ⟨e, rfl, ht⟩⟩
        rw [← e]
        omega
      constructor
      · rintro ⟨_, h2, h3, _⟩
        unfold Geo.Bt at h2 h3
        rw [← e] at h3
        exact ⟨⟨_, _, m0 _ (.inl rfl) (by omega), by rw [Int.mul_comm px]; omega⟩, ⟨_, _, m0 _ (.inr rfl) (by omega), by rw [Int.mul_comm px]; omega⟩⟩
      · rintro ⟨⟨t, u, m, h⟩, ⟨t', u', m', h'⟩⟩
        obtain ⟨sp, ⟨_, eu, k⟩ | ⟨k, _⟩ | ⟨k, _⟩⟩ := mt_two hb hn m
        · obtain ⟨_, ⟨_, eu', k'⟩ | ⟨k', _⟩ | ⟨k', _⟩⟩ := mt_two hb hn m'
          · unfold Geo.Spn at sp
            rw [← e] at sp
            rw [eu, Int.mul_comm px] at h
            rw [eu', Int.mul_comm px] at h'
            refine ⟨?_, ?_, ?_, fun w => (nomatch w), fun w => (nomatch w)⟩
            · rw [← e, Int.sub_self, Int.zero_mul, show b * row - n * p.2 = 0 by omega, Int.mul_zero]
              rfl
            · unfold Geo.Bt
              omega
            · unfold Geo.Bt
              rw [← e]
              omega
          · omega
          · omega
        · omega
        · omega
    · rw [onS_zz hn e]
      constructor
      · rintro ⟨sp, z⟩
        obtain ⟨t, u, m⟩ := ex _ sp
        obtain ⟨_, ⟨k, _⟩ | ⟨_, k⟩ | ⟨_, k⟩⟩ := mt_two hb hn m
        · exact absurd k e
        · have := k px
          exact ⟨⟨t, u, m, by omega⟩, ⟨t, u, m, by omega⟩⟩
        · have := k px
          exact ⟨⟨t, u, m, by omega⟩, ⟨t, u, m, by omega⟩⟩
      · rintro ⟨⟨t, u, m, h⟩, ⟨t', u', m', h'⟩⟩
        obtain ⟨sp, ⟨k, _⟩ | ⟨l1, k⟩ | ⟨l1, k⟩⟩ := mt_two hb hn m
        · exact absurd k e
        · obtain ⟨_, ⟨k', _⟩ | ⟨l2, k'⟩ | ⟨l2, k'⟩⟩ := mt_two hb hn m'
          · exact absurd k' e
          · have := k px
            have := k' px
            exact ⟨sp, by omega⟩
          · omega
        · obtain ⟨_, ⟨k', _⟩ | ⟨l2, k'⟩ | ⟨l2, k'⟩⟩ := mt_two hb hn m'
          · exact absurd k' e
          · omega
          · have := k px
            have := k' px
            exact ⟨sp, by omega⟩
  · omega
/-- strictly between two places of a row -/
theorem row_gap {b n l r px x0 row : Int} {cs : List Hull.P} {os : List Int} (isf : IsF b cs os) (hn : 0 < n) (hl : Geo.Bel b n cs [] l row) (hr : Geo.Bel b n cs [] r row) (h0 : Geo.Bel b n cs os x0 row) (l0 : l ≤ x0) (r0 : x0 ≤ r) (lp : l < px) (pr : px < r) : Geo.Bel b n cs os px row := by
  have hb : 0 < b := by have := isf.b1; omega
  by_cases l3 : 3 ≤ cs.length
  · have fld : ∀ {os : List Int} {px : Int}, Geo.Bel b n cs os px row ↔ Geo.InF n cs os (b * px) (b * row) := fun {os px} => ⟨fun h => by
      rcases h with ⟨z, _⟩ | ⟨_, z⟩
      · omega
      · exact z, fun h => .inr ⟨l3, h⟩⟩
    exact fld.mpr (Geo.row_open hb (fld.mp hl) (fld.mp hr) (fld.mp h0) l0 r0 lp pr)
  have bl : b * l < b * px := Int.mul_lt_mul_of_pos_left lp hb
  have br : b * px < b * r := Int.mul_lt_mul_of_pos_left pr hb
  rcases isf.sh with h1 | ⟨p, q, rfl, lt⟩ | h3
  · match cs, h1 with
    | [p], _ =>
      have := (bel_one.mp hl).1
      have := (bel_one.mp hr).1
      omega
  · have hl' := (bel_two (os := []) hn lt).mp hl
    have hr' := (bel_two (os := []) hn lt).mp hr
    have e : p.2 = q.2 := Classical.byContradiction fun e => by
      obtain ⟨_, z1⟩ := (onS_zz hn e).mp hl'
      obtain ⟨_, z2⟩ := (onS_zz hn e).mp hr'
      unfold Zz at z1 z2
      have : (n * q.2 - n * p.2) * (b * r - b * l) = 0 := by grind
      rcases Int.mul_eq_zero.mp this with w | w
      · exact e (Int.eq_of_mul_eq_mul_left (show n ≠ 0 by omega) (by omega))
      · omega
    obtain ⟨_, h2, h3, _⟩ := hl'
    obtain ⟨_, h2', _⟩ := hr'
    have l1 : p.1 < q.1 := by unfold Hull.Lt at lt; omega
    have g := Geo.grow_lt hn l1
    unfold Geo.Bt at h2 h3 h2'
    rw [← e] at h3
    refine (bel_two hn lt).mpr ⟨?_, ?_, ?_, fun _ z => ?_, fun _ z => ?_⟩
    · rw [← e, Int.sub_self, Int.zero_mul, show b * row - n * p.2 = 0 by omega, Int.mul_zero]
      rfl
    · unfold Geo.Bt
      omega
    · unfold Geo.Bt
      rw [← e]
      omega
    · omega
    · omega
  · omega
/-- both ends tried -/
theorem row_told {S S0 : Int → Prop} {L R : Int} (h0 : ∀ x, S0 x ↔ L ≤ x ∧ x ≤ R) (sub : ∀ x, S x → S0 x) (gap : ∀ x0 x, S x0 → L < x → x < R → S x) {l r : Int} (hl : (L ≤ R ∧ ¬ S L ∧ l = L + 1) ∨ (¬ (L ≤ R ∧ ¬ S L) ∧ l = L)) (hr : (l ≤ R ∧ ¬ S R ∧ r = R - 1) ∨ (¬ (l ≤ R ∧ ¬ S R) ∧ r = R)) :
    (l ≤ r ∧ S l → ∀ x, S x ↔ l ≤ x ∧ x ≤ r) ∧ (¬ (l ≤ r ∧ S l) → ∀ x, ¬ S x) := by
  have inS : ∀ x, S x → L ≤ x ∧ x ≤ R := fun x h => (h0 x).mp (sub x h)
  by_cases hL : S L
  · obtain ⟨_, lR⟩ := inS L hL
    have el : l = L := by
      rcases hl with ⟨_, z, _⟩ | ⟨_, z⟩
      · exact absurd hL z
      · exact z
    subst el
    by_cases hR : S R
    · have er : r = R := by
        rcases hr with ⟨_, z, _⟩ | ⟨_, z⟩
        · exact absurd hR z
        · exact z
      subst er
      refine ⟨fun _ x => ⟨inS x, fun ⟨z1, z2⟩ => ?_⟩, fun z => absurd ⟨lR, hL⟩ z⟩
      by_cases a : x = l
      · rw [a]; exact hL
      by_cases c : x = r
      · rw [c]; exact hR
      exact gap l x hL (by omega) (by omega)
    · have ne : l ≠ R := fun z => hR (by rw [← z]; exact hL)
      have er : r = R - 1 := by
        rcases hr with ⟨_, _, z⟩ | ⟨z, _⟩
        · exact z
        · exact absurd ⟨lR, hR⟩ z
      refine ⟨fun _ x => ⟨fun z => ?_, fun ⟨z1, z2⟩ => ?_⟩, fun z => absurd ⟨by omega, hL⟩ z⟩
      · have := inS x z
        have : x ≠ R := fun w => hR (by rw [← w]; exact z)
        omega
      · by_cases a : x = l
        · rw [a]; exact hL
        exact gap l x hL (by omega) (by omega)
  · by_cases lR : L ≤ R
    · have el : l = L + 1 := by
        rcases hl with ⟨_, _, z⟩ | ⟨z, _⟩
        · exact z
        · exact absurd ⟨lR, hL⟩ z
      subst el
      by_cases hR : S R
      · have ne : L ≠ R := fun z => hL (by rw [z]; exact hR)
        have er : r = R := by
          rcases hr with ⟨_, z, _⟩ | ⟨_, z⟩
          · exact absurd hR z
          · exact z
        subst er
        have s1 : S (L + 1) := by
          by_cases a : L + 1 = r
          · rw [a]; exact hR
          · exact gap r (L + 1) hR (by omega) (by omega)
        refine ⟨fun _ x => ⟨fun z => ?_, fun ⟨z1, z2⟩ => ?_⟩, fun z => absurd ⟨by omega, s1⟩ z⟩
        · have := inS x z
          have : x ≠ L := fun w => hL (by rw [← w]; exact z)
          omega
        · by_cases c : x = r
          · rw [c]; exact hR
          exact gap r x hR (by omega) (by omega)
      · have inM : ∀ x, S x → L < x ∧ x < R := fun x z => by
          have := inS x z
          have : x ≠ L := fun w => hL (by rw [← w]; exact z)
          have : x ≠ R := fun w => hR (by rw [← w]; exact z)
          omega
        constructor
        · rintro ⟨c1, c2⟩ x
          have er : r = R - 1 := by
            rcases hr with ⟨_, _, z⟩ | ⟨z, w⟩
            · exact z
            · exfalso
              have := inM _ c2
              exact z ⟨by omega, hR⟩
          refine ⟨fun z => ?_, fun ⟨z1, z2⟩ => gap _ x c2 (by omega) (by omega)⟩
          have := inM x z
          omega
        · intro c x z
          have m := inM x z
          have s1 : S (L + 1) := by
            by_cases a : L + 1 = x
            · rw [a]; exact z
            · exact gap x (L + 1) z (by omega) (by omega)
          have er : r = R - 1 := by
            rcases hr with ⟨_, _, z⟩ | ⟨z, w⟩
            · exact z
            · exact absurd ⟨by omega, hR⟩ z
          have := inM _ s1
          exact c ⟨by omega, s1⟩
    · have el : l = L := by
        rcases hl with ⟨z, _⟩ | ⟨_, z⟩
        · exact absurd z lR
        · exact z
      refine ⟨fun ⟨_, z⟩ => ?_, fun _ x z => ?_⟩
      · rw [el] at z
        exact absurd z hL
      · have := inS x z
        omega
end K12
set_option Elab.async false
set_option linter.all false
set_option maxRecDepth 100000
set_option maxHeartbeats 1000000
set_option exponentiation.threshold 20000
namespace K12
open PySem PySem.Spec PyProof.Rows L2 Fen
abbrev sRow : Stmt := topS 67
abbrev nRow : List Str := ["_law_plot_here", "_law_often", "_law_level", "_law_low", "_law_corners_here", "_law_shut", "_law_x", "_law_y", "_law_grown", "_law_tops", "_law_height", "_law_edge", "_law_u", "_law_v", "_law_sign", "_law_wide", "_law_high", "_law_over", "_law_left", "_law_right_here", "_law_top", "_law_under"]
theorem scRow : FnScope nRow ["_law_plot_here", "_law_often", "_law_level"] (defScope sRow) := ⟨rfl, rfl, rfl, by decide +kernel, rfl, by decide +kernel, by decide +kernel⟩
/-- which way a side leads -/
def tSgn : TE := fun σ H Q => ∃ y v : Int, σ[7]? = some (some (.int y)) ∧ σ[13]? = some (some (.int v)) ∧ Q (.int (if y < v then 1 else -1)) H
theorem spn_min {n : Int} {a c : Hull.P} {Y : Int} : Geo.Spn n a c Y ↔ (if n * c.2 < n * a.2 then n * c.2 else n * a.2) ≤ Y ∧ Y ≤ (if n * c.2 > n * a.2 then n * c.2 else n * a.2) := by
  unfold Geo.Spn
  split <;> split <;> omega
theorem bel_weak {b n : Int} {cs : List Hull.P} {os : List Int} {px row : Int} (h : Geo.Bel b n cs os px row) : Geo.Bel b n cs [] px row := by
  rcases h with ⟨h1, h2, h3, h4, _⟩ | ⟨h1, h2⟩
  · exact .inl ⟨h1, h2, h3, h4, fun i hi z => nomatch z⟩
  · exact .inr ⟨h1, fun i a c hi ea ec => ⟨(h2 i a c hi ea ec).1, fun z => nomatch z⟩⟩
/-- the left end tried -/
def TLf (K : PySem.W.Frag) : TS := fun D σ H => ∃ (t c o : Addr) (b n level L R : Int) (ks : Pts) (os : List Int) (y3 y4 y5 y6 y7 y8 y9 y10 y11 y12 y13 y14 y15 y16 y17 : Option V), σ = [some (.ref t), some (.int n), some (.int level), y3, y4, y5, y6, y7, y8, y9, y10, y11, y12, y13, y14, y15, y16, y17, some (.int L), some (.int R), none, none] ∧ FAt K H t c o b ks os ∧ IsF b (ks.map (·.2)) os ∧ 1 ≤ n ∧ n ≤ 10 ^ 30 ∧ level.natAbs < 2 ^ 350 ∧ L.natAbs < 2 ^ 690 ∧
  ∀ H' l, Same H H' → ((L ≤ R ∧ ¬ Geo.Bel b n (ks.map (·.2)) os L level ∧ l = L + 1) ∨ (¬ (L ≤ R ∧ ¬ Geo.Bel b n (ks.map (·.2)) os L level) ∧ l = L)) → D.nx [some (.ref t), some (.int n), some (.int level), y3, y4, y5, y6, y7, y8, y9, y10, y11, y12, y13, y14, y15, y16, y17, some (.int l), some (.int R), none, none] H'
/-- the right end tried -/
def TRg (K : PySem.W.Frag) : TS := fun D σ H => ∃ (t c o : Addr) (b n level L R : Int) (ks : Pts) (os : List Int) (y3 y4 y5 y6 y7 y8 y9 y10 y11 y12 y13 y14 y15 y16 y17 : Option V), σ = [some (.ref t), some (.int n), some (.int level), y3, y4, y5, y6, y7, y8, y9, y10, y11, y12, y13, y14, y15, y16, y17, some (.int L), some (.int R), none, none] ∧ FAt K H t c o b ks os ∧ IsF b (ks.map (·.2)) os ∧ 1 ≤ n ∧ n ≤ 10 ^ 30 ∧ level.natAbs < 2 ^ 350 ∧ R.natAbs < 2 ^ 690 ∧
  ∀ H' r, Same H H' → ((L ≤ R ∧ ¬ Geo.Bel b n (ks.map (·.2)) os R level ∧ r = R - 1) ∨ (¬ (L ≤ R ∧ ¬ Geo.Bel b n (ks.map (·.2)) os R level) ∧ r = R)) → D.nx [some (.ref t), some (.int n), some (.int level), y3, y4, y5, y6, y7, y8, y9, y10, y11, y12, y13, y14, y15, y16, y17, some (.int L), some (.int r), none, none] H'
theorem ceil_iff {t u px : Int} (hu : 0 < u) : 0 - (0 - t) / u ≤ px ↔ t ≤ px * u := by
  have h : -px ≤ (-t) / u ↔ -px * u ≤ -t := Int.le_ediv_iff_mul_le hu
  rw [Int.neg_mul] at h
  rw [Int.zero_sub, Int.zero_sub]
  omega
theorem floor_iff {t u px : Int} (hu : 0 < u) : px ≤ t / u ↔ px * u ≤ t := Int.le_ediv_iff_mul_le hu
section
variable {P : Program} {w : World} {K : PySem.W.Frag} {mg : Str → Option Value} {base : Heap}
def spRow (K : PySem.W.Frag) : Sp := fun vs H Q _ => ∃ (t c o : Addr) (b n level : Int) (ks : Pts) (os : List Int), vs = [.ref t, .int n, .int level] ∧ FAt K H t c o b ks os ∧ IsF b (ks.map (·.2)) os ∧ 1 ≤ n ∧ n ≤ 10 ^ 30 ∧ level.natAbs < 2 ^ 350 ∧
  Ends (fun px => Geo.Bel b n (ks.map (·.2)) os px level) H Q
theorem ok_row {f fH : Addr} {fd fdH : FuncData} {k : Nat} (F : Fun K "_law_row" "_law_row" sRow f fd) (ml : mg "len" = none) (mi : mg "int" = none) (mmin : mg "min" = none) (mmax : mg "max" = none) (men : mg "enumerate" = none)
    (CH : Cal P w K mg base (k + 1) "_law_has" fH fdH ["_law_plot_here", "_law_often", "_law_spot"] (spHas K)) :
    FnOk P w K mg base CX0 (k + 1 + 1) f fd ["_law_plot_here", "_law_often", "_law_level"] (spRow K) := by
  refine F.ok scRow (fun vs H Q E h => ?_) (fun cdv A outer s H vs Q E hr h => ?_)
  · obtain ⟨t, c, o, b, n, level, ks, os, rfl, _⟩ := h
    rfl
  · obtain ⟨t, c, o, b, n, level, ks, os, rfl, fa, isf, n1, n2, lb, q1, q2⟩ := h
    refine ⟨_, pss_cons (ps_asg (pv 0) (pg_tup rfl (pgs_cons (pg_name (i := 3) scRow.nd rfl (.inl rfl)) (pgs_cons (pg_name (i := 4) scRow.nd rfl (.inl rfl)) (pgs_cons (pg_name (i := 5) scRow.nd rfl (.inl rfl)) pgs_nil)))))
      (pss_cons (ps_par3 (i := 8) (j := 9) (l := 10) rfl scRow.nd rfl rfl rfl (by decide) (by decide) (by decide) rfl rfl rfl (pa_cons (pe_lc (own := [("_law_x", 6), ("_law_y", 7)]) (g := gTup K 2 (gCons (gName 6) (gCons (gName 7) gNil))) (tt := tYes) rfl scRow.nd (pi_list (pv 4)) (blkOk_by (N := nRow) (sc := defScope sRow) (by decide +kernel)) (fun _ _ _ _ _ => pg_tup rfl (pgs_cons (pg_name (i := 6) scRow.nd rfl (Or.inl rfl)) (pgs_cons (pg_name (i := 7) scRow.nd rfl (Or.inl rfl)) pgs_nil))) (fun _ _ _ _ _ => pts_nil)
            (fun _ _ _ _ _ => pe_tup (pa_cons (pe_op op_mulW (pv 1) (pv 6)) (pa_cons (pe_op op_mulW (pv 1) (pv 7)) pa_nil)))) (pa_cons (pe_lst pa_nil) (pa_cons (pe_op op_mulW (pv 3) (pv 2)) pa_nil))) (by rfl))
      (pss_cons (ps_for PassesOwn.never rfl (pi_enum (by rfl) men (pa_cons (pv 8) pa_nil)) (pg_tup rfl (pgs_cons (pg_name (i := 11) scRow.nd rfl (.inl rfl)) (pgs_cons (pg_tup rfl (pgs_cons (pg_name (i := 6) scRow.nd rfl (.inl rfl)) (pgs_cons (pg_name (i := 7) scRow.nd rfl (.inl rfl)) pgs_nil))) pgs_nil)))
        (pss_cons (ps_asg (pe_ix ix_list (pv 8) (pe_op op_mod (pe_callTy call_int1 (by rfl) mi (by decide +kernel) (pa_cons (pe_op op_add (pv 11) pe_int) pa_nil)) (pe_callB call_len_seq (by rfl) ml PySem.boot_len (pa_cons (pv 8) pa_nil))) (fun _ _ => rfl)) (pg_tup rfl (pgs_cons (pg_name (i := 12) scRow.nd rfl (.inl rfl)) (pgs_cons (pg_name (i := 13) scRow.nd rfl (.inl rfl)) pgs_nil))))
        (pss_one (ps_if (pt_chain op_le op_le (pe_callB (call_min2 rfl) (by rfl) mmin (by decide +kernel) (pa_cons (pv 7) (pa_cons (pv 13) pa_nil))) (pv 10) (pe_callB (call_max2 rfl) (by rfl) mmax (by decide +kernel) (pa_cons (pv 7) (pa_cons (pv 13) pa_nil))))
          (pss_one (ps_if (pt_cmpR op_eq (pv 7) (pv 13) (nomark _))
            (pss_one (ps_set (i := 9) scRow.nd rfl (.inl rfl) (pe_op op_cat (pv 9) (pe_lst (pa_cons (pe_tup (pa_cons (pv 6) (pa_cons (pv 3) pa_nil))) (pa_cons (pe_tup (pa_cons (pv 12) (pa_cons (pv 3) pa_nil))) pa_nil))))))
            (pss_cons (ps_set (i := 14) scRow.nd rfl (.inl rfl) (PE.of tSgn (pe_ifExp (pt_cmpR op_gt (pv 13) (pv 7) (nomark _)) pe_int (pe_un un_neg pe_int)) ?sg))
            (pss_cons (ps_par (i := 15) (j := 16) rfl scRow.nd rfl rfl (by decide) rfl rfl (pa_cons (pe_op op_sub (pv 12) (pv 6)) (pa_cons (pe_op op_sub (pv 13) (pv 7)) pa_nil)) (by rfl))
            (pss_cons (ps_set (i := 17) scRow.nd rfl (.inl rfl) (pe_op op_add (pe_op op_mulW (pe_op op_sub (pv 10) (pv 7)) (pv 15)) (pe_op op_mulW (pv 6) (pv 16))))
            (pss_one (ps_expr (pe_bm PySem.F.plainAttrs_list PySem.F.slot_list_append PySem.F.type_list_append mt_append (pv 9) (pa_cons (pe_tup (pa_cons (pe_op op_mulW (pv 14) (pv 17)) (pa_cons (pe_op op_mulW (pe_op op_mulW (pv 14) (pv 3)) (pv 16)) pa_nil))) pa_nil)))))))))
          pss_nil))))
      (pss_cons (ps_if (pt_cmpR (op_eqD (hu_of64 hr)) (pv 9) (pe_lst pa_nil) (nomark _)) (pss_one (ps_ret pe_non)) pss_nil)
      (pss_cons (ps_set (i := 18) scRow.nd rfl (.inl rfl) (pe_callB (cr_min rfl) (by rfl) mmin (by decide +kernel) (pa_cons (pe_lc (own := [("_law_top", 20), ("_law_under", 21)]) (g := gTup K 2 (gCons (gName 20) (gCons (gName 21) gNil))) (tt := tYes) rfl scRow.nd (pi_list (pv 9)) (blkOk_by (N := nRow) (sc := defScope sRow) (by decide +kernel)) (fun _ _ _ _ _ => pg_tup rfl (pgs_cons (pg_name (i := 20) scRow.nd rfl (Or.inl rfl)) (pgs_cons (pg_name (i := 21) scRow.nd rfl (Or.inl rfl)) pgs_nil))) (fun _ _ _ _ _ => pts_nil)
            (fun _ _ _ _ _ => pe_op op_sub pe_int (pe_op op_fdivW (pe_op op_sub pe_int (pv 20)) (pv 21)))) pa_nil)))
      (pss_cons (ps_set (i := 19) scRow.nd rfl (.inl rfl) (pe_callB (cr_max rfl) (by rfl) mmax (by decide +kernel) (pa_cons (pe_lc (own := [("_law_top", 20), ("_law_under", 21)]) (g := gTup K 2 (gCons (gName 20) (gCons (gName 21) gNil))) (tt := tYes) rfl scRow.nd (pi_list (pv 9)) (blkOk_by (N := nRow) (sc := defScope sRow) (by decide +kernel)) (fun _ _ _ _ _ => pg_tup rfl (pgs_cons (pg_name (i := 20) scRow.nd rfl (Or.inl rfl)) (pgs_cons (pg_name (i := 21) scRow.nd rfl (Or.inl rfl)) pgs_nil))) (fun _ _ _ _ _ => pts_nil)
            (fun _ _ _ _ _ => pe_op op_fdivW (pv 20) (pv 21))) pa_nil)))
      (pss_cons (PS.of (TLf K) (ps_if (PW.pt (pw_and (pt_cmpR op_le (pv 18) (pv 19) (nomark _)) (pw_and1 (pt_not (pt_val (pe_cal CH hr (pa_cons (pv 0) (pa_cons (pv 1) (pa_cons (pe_tup (pa_cons (pv 18) (pa_cons (pv 2) pa_nil))) pa_nil))))))))) (pss_one (ps_set (i := 18) scRow.nd rfl (.inl rfl) (pe_op op_add (pv 18) pe_int))) pss_nil) ?tl)
      (pss_cons (PS.of (TRg K) (ps_if (PW.pt (pw_and (pt_cmpR op_le (pv 18) (pv 19) (nomark _)) (pw_and1 (pt_not (pt_val (pe_cal CH hr (pa_cons (pv 0) (pa_cons (pv 1) (pa_cons (pe_tup (pa_cons (pv 19) (pa_cons (pv 2) pa_nil))) pa_nil))))))))) (pss_one (ps_set (i := 19) scRow.nd rfl (.inl rfl) (pe_op op_sub (pv 19) pe_int))) pss_nil) ?tr)
      (pss_one (ps_ret (pe_ifExp (PW.pt (pw_and (pt_cmpR op_le (pv 18) (pv 19) (nomark _)) (pw_and1 (pt_val (pe_cal CH hr (pa_cons (pv 0) (pa_cons (pv 1) (pa_cons (pe_tup (pa_cons (pv 18) (pa_cons (pv 2) pa_nil))) pa_nil))))))))
        (pe_tup (pa_cons (pv 18) (pa_cons (pv 19) pa_nil))) pe_non)))))))))), ?_⟩
    case sg =>
      rintro σ H Q ⟨y, v, e7, e13, q⟩
      refine ⟨.int v, e13, .int y, e7, _, _, rfl, rfl, _, rfl, ite2 (fun e => ?_) (fun e => ?_)⟩
      · have e1 : y < v := of_decide_eq_true e
        rw [if_pos e1] at q
        exact q
      · have e1 : ¬ y < v := fun z => e (decide_eq_true z)
        rw [if_neg e1] at q
        exact ⟨1, rfl, q⟩
    case tl =>
      rintro D σ H ⟨t, c, o, b, n, level, L, R, ks, os, y3, y4, y5, y6, y7, y8, y9, y10, y11, y12, y13, y14, y15, y16, y17, rfl, fa, isf, n1, n2, lb, Lb, go⟩
      refine ⟨_, rfl, _, rfl, _, _, rfl, rfl, _, rfl, ite2 (fun e => ?_) (fun e => ?_)⟩
      · have e1 : L ≤ R := of_decide_eq_true e
        refine ⟨.ref t, rfl, .int n, rfl, _, rfl, _, rfl, by show 2 ≤ sizeLine; decide, fun u nu => ?_⟩
        have s1 := same_new (o := .tup [.int L, .int level]) nu
        refine ⟨t, c, o, u, b, n, ks, os, L, level, rfl, fa.same s1, isf, n1, n2, SqT.of upd_same, Nat.lt_trans Lb (by decide +kernel), Nat.lt_trans lb (by decide +kernel), fun H' s2 => ⟨_, rfl, ?_⟩⟩
        by_cases hB : Geo.Bel b n (ks.map (·.2)) os L level
        · rw [B_true hB]
          exact iteF (go H' L (s1.trans s2) (.inr ⟨fun z => z.2 hB, rfl⟩))
        · rw [B_false hB]
          exact iteT ⟨_, rfl, _, _, rfl, rfl, go H' (L + 1) (s1.trans s2) (.inl ⟨e1, hB, rfl⟩)⟩
      · exact iteF (go H L (Same.refl _) (.inr ⟨fun z => e (decide_eq_true z.1), rfl⟩))
    case tr =>
      rintro D σ H ⟨t, c, o, b, n, level, L, R, ks, os, y3, y4, y5, y6, y7, y8, y9, y10, y11, y12, y13, y14, y15, y16, y17, rfl, fa, isf, n1, n2, lb, Lb, go⟩
      refine ⟨_, rfl, _, rfl, _, _, rfl, rfl, _, rfl, ite2 (fun e => ?_) (fun e => ?_)⟩
      · have e1 : L ≤ R := of_decide_eq_true e
        refine ⟨.ref t, rfl, .int n, rfl, _, rfl, _, rfl, by show 2 ≤ sizeLine; decide, fun u nu => ?_⟩
        have s1 := same_new (o := .tup [.int R, .int level]) nu
        refine ⟨t, c, o, u, b, n, ks, os, R, level, rfl, fa.same s1, isf, n1, n2, SqT.of upd_same, Nat.lt_trans Lb (by decide +kernel), Nat.lt_trans lb (by decide +kernel), fun H' s2 => ⟨_, rfl, ?_⟩⟩
        by_cases hB : Geo.Bel b n (ks.map (·.2)) os R level
        · rw [B_true hB]
          exact iteF (go H' R (s1.trans s2) (.inr ⟨fun z => z.2 hB, rfl⟩))
        · rw [B_false hB]
          exact iteT ⟨_, rfl, _, _, rfl, rfl, go H' (R - 1) (s1.trans s2) (.inl ⟨e1, hB, rfl⟩)⟩
      · exact iteF (go H R (Same.refl _) (.inr ⟨fun z => e (decide_eq_true z.1), rfl⟩))
    have b1 := isf.b1
    have b2 := isf.b2
    have nb := n_small n1 n2
    have hn : 0 < n := by omega
    have hb : 0 < b := by omega
    have bb : b.natAbs < 2 ^ 10 := Nat.lt_of_le_of_lt (show b.natAbs ≤ 30 by omega) (by decide)
    have l1 := isf.l1
    have l2 := isf.l2
    rw [List.length_map] at l1 l2
    have cl : (ks.map (·.2)).length = ks.length := List.length_map ..
    refine ⟨.ref t, rfl, t, _, rfl, fa.tup, rfl, .int b, [.ref c, .ref o], rfl, .ref c, [.ref o], rfl, .ref o, [], rfl, rfl, ?_⟩
    refine ⟨.ref c, rfl, c, rfl, ⟨_, fa.cor⟩, fun D nD => ?_⟩
    refine lc_list (K := K) (a := c) (xs := refs ks) (fun j H' => ∃ gs : Pts, Same H H' ∧ H' D = some (.lst (refs gs)) ∧ At K H' gs ∧ gs.map (·.2) = (ks.take j).map (fun x => Geo.gr n x.2)) ⟨[], same_new nD, upd_same, fun q hq => (nomatch hq), rfl⟩ (fun j H' _ z => ?_) ?_ ?_
    · obtain ⟨_, z, _⟩ := z
      exact z.seq fa.cor
    · rintro j v H7 hv ⟨gs, s7, hD, T7, e7⟩
      obtain ⟨z, hz, rfl⟩ := refs_get hv
      have mz := List.mem_of_getElem? hz
      have jl : j < ks.length := (List.getElem?_eq_some_iff.mp hz).1
      obtain ⟨sx, sy⟩ := cor_small (isf.co z.2 (List.mem_map.mpr ⟨z, mz, rfl⟩))
      refine ⟨z.1, _, rfl, (fa.pts.same s7) z mz, rfl, .int z.2.1, [.int z.2.2], rfl, .int z.2.2, [], rfl, rfl, rfl, yesT ?_⟩
      refine ⟨_, rfl, _, rfl, _, _, rfl, rfl, wide_mul nb sx (by decide) (by decide) (by decide), _, rfl, _, rfl, _, _, rfl, rfl, wide_mul nb sy (by decide) (by decide) (by decide), by show 2 ≤ sizeLine; decide, fun u nu => ?_⟩
      obtain ⟨z1, z2, z3, z4⟩ := pts_push (q := (n * z.2.1, n * z.2.2)) s7 nD hD T7 nu
      have ln : gs.length = j := by
        have := congrArg List.length e7
        rw [List.length_map, List.length_map, List.length_take] at this
        omega
      refine ⟨refs gs, z1, sz_push ln (by omega), gs ++ [(u, (n * z.2.1, n * z.2.2))], z2, z3, z4, ?_⟩
      rw [List.map_append, e7, take_succ_at hz, List.map_append]
      rfl
    rintro H7 ⟨gs, s7, hD, T7, e7⟩
    rw [refs_len, List.take_length] at e7
    have lg : gs.length = ks.length := by
      have := congrArg List.length e7
      rw [List.length_map, List.length_map] at this
      exact this
    have gAt : ∀ {i : Nat} {g : Addr × Hull.P}, gs[i]? = some g → ∃ x, ks[i]? = some x ∧ g.2 = Geo.gr n x.2 := fun {i g} h => by
      have e := congrArg (fun l => l[i]?) e7
      simp only [List.getElem?_map, h, Option.map_some] at e
      obtain ⟨x, hx, ex⟩ := Option.map_eq_some_iff.mp e.symm
      exact ⟨x, hx, ex.symm⟩
    refine ⟨by show 0 ≤ sizeLine; decide, fun ta nta => ?_⟩
    have k8 := same_new (o := .lst []) nta
    have g8 : (upd H7 ta (.lst [])) ta = some (.lst []) := upd_same
    refine ⟨_, rfl, _, rfl, _, _, rfl, rfl, wide_mul bb lb (by decide) (by decide) (by decide), _, _, _, rfl, ?_⟩
    have Yb : (b * level).natAbs < 2 ^ 360 := wide_lt bb lb
    obtain ⟨Y, hY⟩ : ∃ Y, Y = b * level := ⟨_, rfl⟩
    rw [← hY] at Yb
    refine ⟨.ref D, rfl, D, _, rfl, SqL.of (k8 _ _ hD), ?_⟩
    refine for_it (walk_enum (K := K) (a := D) (xs := refs gs)) (fun e σ H' => ∃ (y6 y7 y11 y12 y13 y14 y15 y16 y17 : Option V) (tc : Addr) (ts : Pts), σ = [some (.ref t), some (.int n), some (.int level), some (.int b), some (.ref c), some (.ref o), y6, y7, some (.ref D), some (.ref tc), some (.int (b * level)), y11, y12, y13, y14, y15, y16, y17, none, none, none, none] ∧ Same H7 H' ∧ H7 tc = none ∧ H' tc = some (.lst (refs ts)) ∧ At K H' ts ∧ ts.length ≤ 2 * e ∧
        (∀ z ∈ ts, Geo.Mt b n (ks.map (·.2)) Y z.2.1 z.2.2 ∧ z.2.1.natAbs < 2 ^ 600 ∧ z.2.2.natAbs < 2 ^ 300) ∧ ∀ i a d tt u, i < e → (ks.map (·.2))[i]? = some a → (ks.map (·.2))[(i + 1) % (ks.map (·.2)).length]? = some d → Geo.Cr b n a d Y tt u → (tt, u) ∈ ts.map (·.2))
      ⟨_, _, _, _, _, _, _, _, _, ta, [], rfl, k8, nta, g8, fun q hq => (nomatch hq), by simp, fun z hz => (nomatch hz), fun i _ _ _ _ z => absurd z (Nat.not_lt_zero _)⟩ (fun e σ H' _ z => ?_) ?_ ?_
    · obtain ⟨_, _, _, _, _, _, _, _, _, _, _, _, z, _⟩ := z
      exact SqL.of (z _ _ hD)
    · rintro e x σ H8 H9 he ⟨y6, y7, y11, y12, y13, y14, y15, y16, y17, tc, ts, rfl, s8, ntc, htc, Tt, lt, all, got⟩ ⟨U, x1, x2, rfl, nU, rfl, e1, e2⟩
      have ex1 : x1 = .int (e : Nat) := (Option.some.inj e1).symm
      subst ex1
      obtain ⟨g, hg, rfl⟩ := refs_get e2
      rw [refs_len] at he
      have lb' : (e + 1) % gs.length < gs.length := Nat.mod_lt _ (by omega)
      obtain ⟨g', hg'⟩ : ∃ g', gs[(e + 1) % gs.length]? = some g' := ⟨_, List.getElem?_eq_getElem lb'⟩
      obtain ⟨x, hx, ex⟩ := gAt hg
      obtain ⟨y, hy, ey⟩ := gAt hg'
      have mx := List.mem_of_getElem? hx
      have my := List.mem_of_getElem? hy
      obtain ⟨sx1, sx2⟩ := cor_small (isf.co x.2 (List.mem_map.mpr ⟨x, mx, rfl⟩))
      obtain ⟨sy1, sy2⟩ := cor_small (isf.co y.2 (List.mem_map.mpr ⟨y, my, rfl⟩))
      have kU := same_new (o := .tup [.int (e : Nat), .ref g.1]) nU
      have s9 := s8.trans kU
      have hD9 := s9 _ _ hD
      have htc9 := kU _ _ htc
      have Tt9 := Tt.same kU
      have gU : (upd H8 U (.tup [.int (e : Nat), .ref g.1])) U = some (.tup [.int (e : Nat), .ref g.1]) := upd_same
      generalize upd H8 U (.tup [.int (e : Nat), .ref g.1]) = H9 at kU s9 hD9 htc9 Tt9 gU ⊢
      have Tg : SqT K H9 g.1 [.int (n * x.2.1), .int (n * x.2.2)] := by
        have := (T7.same s9) g (List.mem_of_getElem? hg)
        rw [ex] at this
        exact this
      have Tg' : SqT K H9 g'.1 [.int (n * y.2.1), .int (n * y.2.2)] := by
        have := (T7.same s9) g' (List.mem_of_getElem? hg')
        rw [ey] at this
        exact this
      have ia : atI (refs gs) ((((e : Nat) : Int) + 1) % ((refs gs).length : Nat)) = some (.ref g'.1) := by
        rw [refs_len, show (((e : Nat) : Int) + 1) % (gs.length : Nat) = (((e + 1) % gs.length : Nat) : Int) by rw [Int.natCast_emod]; rfl]
        exact atI_nat (by unfold refs; rw [List.getElem?_map, hg']; rfl)
      have lpos : (0 : Int) < ((refs gs).length : Nat) := by rw [refs_len]; omega
      have cx : (ks.map (·.2))[e]? = some x.2 := by rw [List.getElem?_map, hx]; rfl
      have cy : (ks.map (·.2))[(e + 1) % (ks.map (·.2)).length]? = some y.2 := by
        rw [List.length_map, ← lg, List.getElem?_map, hy]
        rfl
      have lec : e < (ks.map (·.2)).length := by rw [List.length_map, ← lg]; exact he
      have more : ∀ (ts' : Pts), (∀ z ∈ ts, z.2 ∈ ts'.map (·.2)) → (∀ tt u, Geo.Cr b n x.2 y.2 Y tt u → (tt, u) ∈ ts'.map (·.2)) → ∀ i a d tt u, i < e + 1 → (ks.map (·.2))[i]? = some a → (ks.map (·.2))[(i + 1) % (ks.map (·.2)).length]? = some d → Geo.Cr b n a d Y tt u → (tt, u) ∈ ts'.map (·.2) := fun ts' h1 h2 i a d tt u hi ha hd hc => by
        by_cases w : i = e
        · subst w
          rw [cx] at ha
          rw [cy] at hd
          cases ha
          cases hd
          exact h2 tt u hc
        · obtain ⟨z, hz, ez⟩ := List.mem_map.mp (got i a d tt u (by omega) ha hd hc)
          rw [← ez]
          exact h1 z hz
      have ms1 := wide_lt nb sx1
      have ms2 := wide_lt nb sx2
      have ms3 := wide_lt nb sy1
      have ms4 := wide_lt nb sy2
      refine ⟨U, _, rfl, SqT.of gU, rfl, .int (e : Nat), [.ref g.1], rfl, .ref g.1, [], rfl, g.1, _, rfl, Tg, rfl, .int (n * x.2.1), [.int (n * x.2.2)], rfl, .int (n * x.2.2), [], rfl, rfl, rfl, ?_⟩
      refine ⟨.ref D, rfl, _, rfl, _, _, rfl, rfl, .inl ⟨_, rfl, .ref D, rfl, D, _, rfl, .inl (SqL.of hD9), _, _, rfl, rfl, lpos, D, refs gs, _, .ref g'.1, rfl, rfl, SqL.of hD9, ia, g'.1, _, rfl, Tg', rfl, .int (n * y.2.1), [.int (n * y.2.2)], rfl, .int (n * y.2.2), [], rfl, rfl, ?_⟩⟩
      refine ⟨_, rfl, _, rfl, _, _, rfl, _, rfl, _, _, rfl, rfl, _, rfl, ?_⟩
      have still : ¬ Geo.Spn n x.2 y.2 Y → ∃ (z6 z7 z11 z12 z13 z14 z15 z16 z17 : Option V) (tc' : Addr) (ts : Pts), [some (.ref t), some (.int n), some (.int level), some (.int b), some (.ref c), some (.ref o), some (.int (n * x.2.1)), some (.int (n * x.2.2)), some (.ref D), some (.ref tc), some (.int (b * level)), some (.int (e : Nat)), some (.int (n * y.2.1)), some (.int (n * y.2.2)), y14, y15, y16, y17, none, none, none, none] = [some (.ref t), some (.int n), some (.int level), some (.int b), some (.ref c), some (.ref o), z6, z7, some (.ref D), some (.ref tc'), some (.int (b * level)), z11, z12, z13, z14, z15, z16, z17, none, none, none, none] ∧ Same H7 H9 ∧ H7 tc' = none ∧ H9 tc' = some (.lst (refs ts)) ∧ At K H9 ts ∧ ts.length ≤ 2 * (e + 1) ∧
          (∀ z ∈ ts, Geo.Mt b n (ks.map (·.2)) Y z.2.1 z.2.2 ∧ z.2.1.natAbs < 2 ^ 600 ∧ z.2.2.natAbs < 2 ^ 300) ∧ ∀ i a d tt u, i < e + 1 → (ks.map (·.2))[i]? = some a → (ks.map (·.2))[(i + 1) % (ks.map (·.2)).length]? = some d → Geo.Cr b n a d Y tt u → (tt, u) ∈ ts.map (·.2) := fun no =>
        ⟨_, _, _, _, _, _, _, _, _, tc, ts, rfl, s9, ntc, htc9, Tt9, by omega, all, more ts (fun z hz => List.mem_map.mpr ⟨z, hz, rfl⟩) fun tt u hc => absurd hc.1 no⟩
      refine ite2 (fun c1 => ?_) (fun c1 => ?_)
      · have d1 := of_decide_eq_true c1
        refine ⟨_, rfl, _, rfl, _, _, rfl, _, _, rfl, rfl, _, rfl, ite2 (fun c2 => ?_) (fun c2 => ?_)⟩
        · have d2 := of_decide_eq_true c2
          have sp : Geo.Spn n x.2 y.2 Y := by rw [spn_min, hY]; exact ⟨d1, d2⟩
          refine ⟨_, rfl, _, rfl, rfl, _, rfl, ite2 (fun c3 => ?_) (fun c3 => ?_)⟩
          · have e3 : x.2.2 = y.2.2 := Int.eq_of_mul_eq_mul_left (show n ≠ 0 by omega) (V.int.inj (of_decide_eq_true c3))
            refine ⟨_, rfl, _, rfl, _, rfl, by show 2 ≤ sizeLine; decide, fun u1 nu1 => ?_⟩
            have j1 := same_new (o := .tup [.int (n * x.2.1), .int b]) nu1
            have i1 : (upd H9 u1 (.tup [.int (n * x.2.1), .int b])) u1 = some (.tup [.int (n * x.2.1), .int b]) := upd_same
            generalize upd H9 u1 (.tup [.int (n * x.2.1), .int b]) = HA at j1 i1 ⊢
            refine ⟨_, rfl, _, rfl, by show 2 ≤ sizeLine; decide, fun u2 nu2 => ?_⟩
            have j2 := same_new (o := .tup [.int (n * y.2.1), .int b]) nu2
            have i2 : (upd HA u2 (.tup [.int (n * y.2.1), .int b])) u2 = some (.tup [.int (n * y.2.1), .int b]) := upd_same
            have i1' := j2 _ _ i1
            generalize upd HA u2 (.tup [.int (n * y.2.1), .int b]) = HB at j2 i2 i1' ⊢
            refine ⟨by show 2 ≤ sizeLine; decide, fun w3 nw3 => ?_⟩
            have j3 := same_new (o := .lst [.ref u1, .ref u2]) nw3
            have i3 : (upd HB w3 (.lst [.ref u1, .ref u2])) w3 = some (.lst [.ref u1, .ref u2]) := upd_same
            have i1'' := j3 _ _ i1'
            have i2' := j3 _ _ i2
            generalize upd HB w3 (.lst [.ref u1, .ref u2]) = HC at j3 i3 i1'' i2' ⊢
            have jc := (j1.trans j2).trans j3
            refine ⟨tc, w3, _, _, rfl, rfl, jc _ _ htc9, i3, sz20 (by rw [refs_len]; show ts.length + 2 ≤ 4096; omega), fun w4 nw4 => ?_⟩
            have j4 := same_new (o := .lst (refs ts ++ [.ref u1, .ref u2])) nw4
            have sF := (s9.trans jc).trans j4
            refine ⟨_, _, _, _, _, _, _, _, _, w4, ts ++ [(u1, (n * x.2.1, b)), (u2, (n * y.2.1, b))], rfl, sF, (s9.trans jc).free nw4, by rw [upd_same]; simp [refs], fun z hz => ?_, by rw [List.length_append]; show ts.length + 2 ≤ _; omega, fun z hz => ?_, more _ (fun z hz => by rw [List.map_append]; exact List.mem_append.mpr (.inl (List.mem_map.mpr ⟨z, hz, rfl⟩))) fun tt u hc => ?_⟩
            · rcases List.mem_append.mp hz with w | w
              · exact ((Tt9.same jc).same j4) z w
              · rcases List.mem_cons.mp w with rfl | w
                · exact SqT.of (j4 _ _ i1'')
                · rw [List.mem_singleton.mp w]
                  exact SqT.of (j4 _ _ i2')
            · have bs : b.natAbs < 2 ^ 300 := Nat.lt_trans bb (by decide)
              rcases List.mem_append.mp hz with w | w
              · exact all z w
              · rcases List.mem_cons.mp w with rfl | w
                · exact ⟨⟨e, x.2, y.2, lec, cx, cy, sp, .inl ⟨e3, rfl, .inl rfl⟩⟩, Nat.lt_trans ms1 (by decide), bs⟩
                · rw [List.mem_singleton.mp w]
                  exact ⟨⟨e, x.2, y.2, lec, cx, cy, sp, .inl ⟨e3, rfl, .inr rfl⟩⟩, Nat.lt_trans ms3 (by decide), bs⟩
            · rw [List.map_append]
              refine List.mem_append.mpr (.inr ?_)
              obtain ⟨_, ⟨_, rfl, h | h⟩ | ⟨h, _⟩ | ⟨h, _⟩⟩ := hc
              · rw [h]; simp
              · rw [h]; simp
              · omega
              · omega
          · have e3 : x.2.2 ≠ y.2.2 := fun z => c3 (decide_eq_true (by rw [z]))
            refine ⟨n * x.2.2, n * y.2.2, rfl, rfl, ?_⟩
            obtain ⟨sg, hsg, sgb, hh⟩ : ∃ sg : Int, (if n * x.2.2 < n * y.2.2 then (1 : Int) else -1) = sg ∧ sg.natAbs < 2 ^ 1 ∧ ((x.2.2 < y.2.2 ∧ sg = 1) ∨ (y.2.2 < x.2.2 ∧ sg = -1)) := by
              rcases Int.lt_or_gt_of_ne e3 with l | l
              · have := Geo.grow_lt hn l
                exact ⟨1, if_pos (by omega), by decide, .inl ⟨l, rfl⟩⟩
              · have := Geo.grow_lt hn l
                exact ⟨-1, if_neg (by omega), by decide, .inr ⟨l, rfl⟩⟩
            rw [hsg]
            have w1 : (b * level - n * x.2.2).natAbs < 2 ^ 361 := sub_small (by rw [← hY]; exact Yb) (Nat.lt_trans ms2 (by decide))
            have w2 : (n * y.2.1 - n * x.2.1).natAbs < 2 ^ 201 := sub_small ms3 ms1
            have w3 : (n * y.2.2 - n * x.2.2).natAbs < 2 ^ 201 := sub_small ms4 ms2
            have w4 := wide_lt w1 w2
            have w5 := wide_lt ms1 w3
            have w6 : ((b * level - n * x.2.2) * (n * y.2.1 - n * x.2.1) + n * x.2.1 * (n * y.2.2 - n * x.2.2)).natAbs < 2 ^ 563 := nat_sum w4 (Nat.lt_trans w5 (by decide))
            have w7 := wide_lt sgb w6
            have w8 := wide_lt sgb bb
            have w9 := wide_lt w8 w3
            refine ⟨_, rfl, _, rfl, _, _, rfl, rfl, _, rfl, _, rfl, _, _, rfl, rfl, _, _, rfl, ?_⟩
            refine ⟨_, rfl, _, rfl, _, _, rfl, rfl, _, rfl, _, _, rfl, rfl, wide_mul w1 w2 (by decide) (by decide) (by decide), _, rfl, _, rfl, _, _, rfl, rfl, wide_mul ms1 w3 (by decide) (by decide) (by decide), _, _, rfl, rfl, ?_⟩
            refine ⟨.ref tc, rfl, .inl ⟨rfl, _, SqL.of htc9⟩, _, rfl, _, rfl, _, _, rfl, rfl, wide_mul sgb w6 (by decide) (by decide) (by decide), _, rfl, _, rfl, _, _, rfl, rfl, wide_mul sgb bb (by decide) (by decide) (by decide), _, rfl, _, _, rfl, rfl, wide_mul w8 w3 (by decide) (by decide) (by decide), by show 2 ≤ sizeLine; decide, fun u nu => ?_⟩
            obtain ⟨z1, z2, z3, z4⟩ := pts_push (q := (sg * ((b * level - n * x.2.2) * (n * y.2.1 - n * x.2.1) + n * x.2.1 * (n * y.2.2 - n * x.2.2)), sg * b * (n * y.2.2 - n * x.2.2))) s9 ntc htc9 Tt9 nu
            refine ⟨tc, refs ts, .ref u, rfl, rfl, z1, sz_push rfl (by omega), ?_⟩
            have cr1 : Geo.Cr b n x.2 y.2 Y (sg * ((b * level - n * x.2.2) * (n * y.2.1 - n * x.2.1) + n * x.2.1 * (n * y.2.2 - n * x.2.2))) (sg * b * (n * y.2.2 - n * x.2.2)) := by
              rw [← hY]
              rcases hh with ⟨l, rfl⟩ | ⟨l, rfl⟩
              · exact ⟨sp, .inr (.inl ⟨l, by rw [Int.one_mul], by rw [Int.one_mul]⟩)⟩
              · exact ⟨sp, .inr (.inr ⟨l, by rw [Int.neg_mul, Int.one_mul], by rw [Int.neg_mul, Int.one_mul, Int.neg_mul]⟩)⟩
            refine ⟨_, _, _, _, _, _, _, _, _, tc, ts ++ [(u, (sg * ((b * level - n * x.2.2) * (n * y.2.1 - n * x.2.1) + n * x.2.1 * (n * y.2.2 - n * x.2.2)), sg * b * (n * y.2.2 - n * x.2.2)))], rfl, z2, ntc, z3, z4, by rw [List.length_append]; show ts.length + 1 ≤ _; omega, fun z hz => ?_, more _ (fun z hz => by rw [List.map_append]; exact List.mem_append.mpr (.inl (List.mem_map.mpr ⟨z, hz, rfl⟩))) fun tt u' hc => ?_⟩
            · rcases List.mem_append.mp hz with w | w
              · exact all z w
              · rw [List.mem_singleton.mp w]
                exact ⟨⟨e, x.2, y.2, lec, cx, cy, cr1⟩, Nat.lt_trans w7 (by decide), Nat.lt_trans w9 (by decide)⟩
            · rw [List.map_append]
              refine List.mem_append.mpr (.inr (List.mem_singleton.mpr ?_))
              obtain ⟨_, c1⟩ := cr1
              obtain ⟨_, c2⟩ := hc
              rcases c1 with ⟨h, _⟩ | ⟨h, f1, f2⟩ | ⟨h, f1, f2⟩
              · exact absurd h e3
              · rcases c2 with ⟨h', _⟩ | ⟨_, g1, g2⟩ | ⟨h', _⟩
                · omega
                · show (tt, u') = (_, _)
                  rw [f1, f2, g1, g2]
                · omega
              · rcases c2 with ⟨h', _⟩ | ⟨h', _⟩ | ⟨_, g1, g2⟩
                · omega
                · omega
                · show (tt, u') = (_, _)
                  rw [f1, f2, g1, g2]
        · exact still fun z => c2 (decide_eq_true (by rw [spn_min, hY] at z; exact z.2))
      · exact ⟨false, rfl, iteF (still fun z => c1 (decide_eq_true (by rw [spn_min, hY] at z; exact z.1)))⟩
    rintro σ H8 ⟨y6, y7, y11, y12, y13, y14, y15, y16, y17, tc, ts, rfl, s8, ntc, htc, Tt, lt, all, got⟩
    rw [refs_len, lg] at got lt
    have memT : ∀ tt u, Geo.Mt b n (ks.map (·.2)) Y tt u ↔ (tt, u) ∈ ts.map (·.2) := fun tt u => by
      constructor
      · rintro ⟨i, a, d, hi, ha, hd, hc⟩
        exact got i a d tt u (by rw [cl] at hi; exact hi) ha hd hc
      · intro h
        obtain ⟨z, hz, ez⟩ := List.mem_map.mp h
        have := (all z hz).1
        rw [ez] at this
        exact this
    have rb := fun px => row_bel (b := b) (n := n) (px := px) (row := level) isf hn
    rw [← hY] at rb
    have sA := s7.trans s8
    have fa8 := fa.same sA
    refine ⟨.ref tc, rfl, by show 0 ≤ sizeLine; decide, fun e0 ne0 => ?_⟩
    have k9 := same_new (o := .lst []) ne0
    have g9 : (upd H8 e0 (.lst [])) e0 = some (.lst []) := upd_same
    have htc9 := k9 _ _ htc
    have Tt9 := Tt.same k9
    generalize upd H8 e0 (.lst []) = H9 at k9 g9 htc9 Tt9 ⊢
    have dpt : Dp K H9 (.ref tc) (ptsD (ts.map (·.2))) := dp_pts (SqL.of htc9) Tt9
    refine ⟨ptsD (ts.map fun z : Addr × Hull.P => z.2), .list [], dpt, .lst (SqL.of g9) .nil, shaped_pts _, rfl, _, rfl, ?_⟩
    rw [eqv_nil]
    have sB := sA.trans k9
    have fa9 := fa8.same k9
    refine ite2 (fun e => ?_) (fun e => ?_)
    · refine q1 H9 sB fun px hx => ?_
      have hx0 : Geo.Bel b n (ks.map (·.2)) [] px level := bel_weak hx
      obtain ⟨⟨tt, u, m, _⟩, _⟩ := (rb px).mp hx0
      have := (memT tt u).mp m
      cases hl : ts.map (·.2) with
      | nil => rw [hl] at this; cases this
      | cons a r => rw [hl] at e; cases e
    have tne : 0 < ts.length := by
      cases hl : ts with
      | nil => rw [hl] at e; exact absurd rfl e
      | cons a r => exact Nat.succ_pos _
    refine ⟨.ref tc, rfl, tc, rfl, ⟨_, SqL.of htc9⟩, fun D1 nD1 => ?_⟩
    refine lc_list (K := K) (a := tc) (xs := refs ts) (fun j H' => Same H9 H' ∧ H' D1 = some (.lst (((ts.take j).map fun z => 0 - (0 - z.2.1) / z.2.2).map V.int))) ⟨same_new nD1, upd_same⟩ (fun j H' _ z => SqL.of (z.1 _ _ htc9)) ?_ ?_
    · rintro j v HA hv ⟨sX, hD1⟩
      obtain ⟨z, hz, rfl⟩ := refs_get hv
      have mz := List.mem_of_getElem? hz
      have jl := (List.getElem?_eq_some_iff.mp hz).1
      obtain ⟨mt, _, ub⟩ := all z mz
      obtain ⟨i, a, d, _, _, _, hc⟩ := mt
      have up := hc.pos hb hn
      refine ⟨z.1, _, rfl, (Tt9.same sX) z mz, rfl, .int z.2.1, [.int z.2.2], rfl, .int z.2.2, [], rfl, rfl, rfl, yesT ?_⟩
      refine ⟨_, rfl, _, _, rfl, rfl, _, rfl, _, _, rfl, rfl, wide_div up ub (by decide) (by decide), _, _, rfl, rfl, _, hD1, ?_, fun a' u' e' => ?_, ?_⟩
      · rw [List.length_map, List.length_map, List.length_take]
        exact Nat.lt_of_le_of_lt (show min j ts.length ≤ 4096 by omega) (by decide)
      · rw [upd_ne (fun w => by rw [w, nD1] at e'; cases e')]
        exact sX a' u' e'
      · rw [upd_same, take_succ_at hz, List.map_append, List.map_append]
        rfl
    rintro HA ⟨sX, hD1⟩
    rw [refs_len, List.take_length] at hD1
    refine ⟨D1, _, rfl, SqL.of hD1, by rw [List.length_map]; exact tne, fun L mL leL => ?_⟩
    have htcA := sX _ _ htc9
    have TtA := Tt9.same sX
    refine ⟨.ref tc, rfl, tc, rfl, ⟨_, SqL.of htcA⟩, fun D2 nD2 => ?_⟩
    refine lc_list (K := K) (a := tc) (xs := refs ts) (fun j H' => Same HA H' ∧ H' D2 = some (.lst (((ts.take j).map fun z => z.2.1 / z.2.2).map V.int))) ⟨same_new nD2, upd_same⟩ (fun j H' _ z => SqL.of (z.1 _ _ htcA)) ?_ ?_
    · rintro j v HB hv ⟨sX2, hD2⟩
      obtain ⟨z, hz, rfl⟩ := refs_get hv
      have mz := List.mem_of_getElem? hz
      have jl := (List.getElem?_eq_some_iff.mp hz).1
      obtain ⟨mt, _, ub⟩ := all z mz
      obtain ⟨i, a, d, _, _, _, hc⟩ := mt
      have up := hc.pos hb hn
      refine ⟨z.1, _, rfl, (TtA.same sX2) z mz, rfl, .int z.2.1, [.int z.2.2], rfl, .int z.2.2, [], rfl, rfl, rfl, yesT ?_⟩
      refine ⟨_, rfl, _, rfl, _, _, rfl, rfl, wide_div up ub (by decide) (by decide), _, hD2, ?_, fun a' u' e' => ?_, ?_⟩
      · rw [List.length_map, List.length_map, List.length_take]
        exact Nat.lt_of_le_of_lt (show min j ts.length ≤ 4096 by omega) (by decide)
      · rw [upd_ne (fun w => by rw [w, nD2] at e'; cases e')]
        exact sX2 a' u' e'
      · rw [upd_same, take_succ_at hz, List.map_append, List.map_append]
        rfl
    rintro HB ⟨sX2, hD2⟩
    rw [refs_len, List.take_length] at hD2
    refine ⟨D2, _, rfl, SqL.of hD2, by rw [List.length_map]; exact tne, fun R mR leR => ?_⟩
    have sC := (sB.trans sX).trans sX2
    have fa10 := fa.same sC
    -- the row of the closed fence
    have pos : ∀ z ∈ ts, 0 < z.2.2 := fun z hz => by
      obtain ⟨i, a, d, _, _, _, hc⟩ := (all z hz).1
      exact hc.pos hb hn
    have row0 : ∀ px, Geo.Bel b n (ks.map (·.2)) [] px level ↔ L ≤ px ∧ px ≤ R := fun px => by
      rw [rb px]
      constructor
      · rintro ⟨⟨tt, u, m, h⟩, ⟨tt', u', m', h'⟩⟩
        obtain ⟨z, hz, ez⟩ := List.mem_map.mp ((memT tt u).mp m)
        obtain ⟨z', hz', ez'⟩ := List.mem_map.mp ((memT tt' u').mp m')
        have e1 : z.2 = (tt, u) := ez
        have e2 : z'.2 = (tt', u') := ez'
        have p1 := pos z hz
        have p2 := pos z' hz'
        have g1 := leL _ (List.mem_map.mpr ⟨z, hz, rfl⟩)
        have g2 := leR _ (List.mem_map.mpr ⟨z', hz', rfl⟩)
        have f1 := (ceil_iff (t := z.2.1) (px := px) p1).mpr (by rw [e1]; exact h)
        have f2 := (floor_iff (t := z'.2.1) (px := px) p2).mpr (by rw [e2]; exact h')
        omega
      · rintro ⟨h1, h2⟩
        obtain ⟨z, hz, ez⟩ := List.mem_map.mp mL
        obtain ⟨z', hz', ez'⟩ := List.mem_map.mp mR
        exact ⟨⟨z.2.1, z.2.2, (all z hz).1, (ceil_iff (pos z hz)).mp (by rw [ez]; exact h1)⟩, ⟨z'.2.1, z'.2.2, (all z' hz').1, (floor_iff (pos z' hz')).mp (by rw [ez']; exact h2)⟩⟩
    have Lb : L.natAbs < 2 ^ 600 := by
      obtain ⟨z, hz, ez⟩ := List.mem_map.mp mL
      have h1 := (all z hz).2.1
      have h2 := Int.natAbs_ediv_le_natAbs (0 - z.2.1) z.2.2
      rw [← ez]
      omega
    have Rb : R.natAbs < 2 ^ 600 := by
      obtain ⟨z, hz, ez⟩ := List.mem_map.mp mR
      have h1 := (all z hz).2.1
      have h2 := Int.natAbs_ediv_le_natAbs z.2.1 z.2.2
      rw [← ez]
      omega
    have sub : ∀ px, Geo.Bel b n (ks.map (·.2)) os px level → Geo.Bel b n (ks.map (·.2)) [] px level := fun px h => bel_weak h
    have gap : ∀ x0 px, Geo.Bel b n (ks.map (·.2)) os x0 level → L < px → px < R → Geo.Bel b n (ks.map (·.2)) os px level := fun x0 px h h1 h2 => by
      have i0 := (row0 x0).mp (sub x0 h)
      exact row_gap isf hn ((row0 L).mpr ⟨Int.le_refl _, by omega⟩) ((row0 R).mpr ⟨by omega, Int.le_refl _⟩) h i0.1 i0.2 h1 h2
    refine ⟨t, c, o, b, n, level, L, R, ks, os, _, _, _, _, _, _, _, _, _, _, _, _, _, _, _, rfl, fa10, isf, n1, n2, lb, Nat.lt_trans Lb (by decide +kernel), fun HC l sD hl => ?_⟩
    refine ⟨t, c, o, b, n, level, l, R, ks, os, _, _, _, _, _, _, _, _, _, _, _, _, _, _, _, rfl, fa10.same sD, isf, n1, n2, lb, Nat.lt_trans Rb (by decide +kernel), fun HD r sE hr' => ?_⟩
    obtain ⟨done1, done2⟩ := row_told row0 sub gap hl hr'
    have sF := (sC.trans sD).trans sE
    have lbnd : l.natAbs < 2 ^ 700 := by
      have e6 : (2 : Nat) ^ 600 + 1 < 2 ^ 700 := by decide +kernel
      have : l = L + 1 ∨ l = L := by
        rcases hl with ⟨_, _, z⟩ | ⟨_, z⟩
        · exact .inl z
        · exact .inr z
      generalize (2 : Nat) ^ 600 = A at *
      generalize (2 : Nat) ^ 700 = B at *
      omega
    refine ⟨_, rfl, _, rfl, _, _, rfl, rfl, _, rfl, ite2 (fun e => ?_) (fun e => ?_)⟩
    · have e1 : l ≤ r := of_decide_eq_true e
      refine ⟨.ref t, rfl, .int n, rfl, _, rfl, _, rfl, by show 2 ≤ sizeLine; decide, fun u nu => ?_⟩
      have s1 := same_new (o := .tup [.int l, .int level]) nu
      refine ⟨t, c, o, u, b, n, ks, os, l, level, rfl, (fa.same sF).same s1, isf, n1, n2, SqT.of upd_same, lbnd, Nat.lt_trans lb (by decide +kernel), fun H' s2 => ⟨_, rfl, ?_⟩⟩
      by_cases hB : Geo.Bel b n (ks.map (·.2)) os l level
      · rw [B_true hB]
        refine iteT ⟨_, rfl, _, rfl, by show 2 ≤ sizeLine; decide, fun z nz => ?_⟩
        exact q2 _ z l r (((sF.trans s1).trans s2).trans (same_new nz)) upd_same e1 (done1 ⟨e1, hB⟩)
      · rw [B_false hB]
        exact iteF (q1 H' ((sF.trans s1).trans s2) (done2 fun z => hB z.2))
    · exact iteF (q1 HD sF (done2 fun z => e (decide_eq_true z.1)))
end
end K12
set_option Elab.async false
set_option linter.all false
set_option maxRecDepth 100000
set_option maxHeartbeats 1000000
/-! for over range(i, j), whatever the size of the ints -/
namespace L2
open PySem PySem.Spec PyProof.Rows
theorem turn_long {P : Program} {w : World} {K : PySem.W.Frag} {tg : Expr} (it : Addr) (lo : Int) (n : Nat) : Turn P w K tg (Itr lo n) [it] it (fun i h => IsLongIter h it (lo + (i : Nat) * 1) ((n : Int) - (i : Nat)) 1) where
  mem := by simp
  obj := fun i h st b hb => by
    have e : b = it := by simpa using hb
    subst e
    exact ⟨_, st, fun v z => by
      have z' : Data.fields _ = Data.cell v := z
      cases z'⟩
  keep := fun i h h' st k => k it (by simp) _ st
  item := by
    intro X hP hw hK hc i pins s σ H E I hf st hg
    subst hP hw hK
    obtain ⟨f0, f1, f2, f3, f4, f5⟩ := hf it (by simp)
    have W := Walks.longrange (prog := X.prog) (w := X.w) (I.ok.hd hc) it lo 1 n
    refine W.item i s _ _ hg st fun v h' tk hv st' kk => ?_
    obtain ⟨t, rfl⟩ := hv
    have I1 : Inv X pins σ H { s with heap := h', toks := tk } := I.turned (fun b o hb e => kk b o (by simpa using hb) e) f0 f1 f3 f4 f5
    refine ⟨_, rfl, go_of (s := { s with heap := h', toks := tk }) (n := "longrange_iterator") st' rfl rfl (by decide) ⟨.int (lo + i), H, I1, ⟨t, ?_⟩, ⟨rfl, rfl⟩, st', fun b hb => (hf b hb).1⟩⟩
    rw [Int.mul_one]
  done := by
    intro X hP hw hK hc i pins s σ H E I hf st hg
    subst hP hw hK
    obtain ⟨f0, f1, f2, f3, f4, f5⟩ := hf it (by simp)
    exact wpAny_pyNext_long_end (I.ok.hd hc) st (by have : n ≤ i := hg; omega) fun h' eb => ⟨rfl, I.turned (t' := s.toks) (fun b o hb e => eb b o hb e) f0 f1 f3 f4 f5⟩
  self := fun _ _ _ _ _ st h => wpAny_pyIter_longiter st h
section
variable {X : Cx} {tg : Expr}
theorem range_itW {pins : List (Addr × Obj)} {σ : St} {H : Hp} {s : Shared} {R : It → Hp → Prop} {E : Value → Shared → Prop} {lo hi : Int} {t u v : Tok} {tk : Nat} (I : Inv X pins σ H s)
    (q : R (Itr lo (hi - lo).toNat) H) : wpAny (model X.prog X.w) X.A (pyIter (.ref s.heap.objs.size)) (PIE X pins σ tg R) E { s with heap := s.heap.push { cls := .type "range", data := .fields #[.int lo t, .int hi u, .int 1 v] }, toks := tk } := by
  have I1 : Inv X pins σ H { s with heap := s.heap.push { cls := .type "range", data := .fields #[.int lo t, .int hi u, .int 1 v] }, toks := tk } := I.kept fun b o e => Heap.get?_push_of_some _ e
  have e1 : lo + ((0 : Nat) : Int) * 1 = lo := by simp
  have e2 : (((hi - lo).toNat : Nat) : Int) - ((0 : Nat) : Int) = Builtin.Range.rangeSize lo hi 1 := by rw [rangeSize_one]; split <;> omega
  cases hs : Builtin.Range.small lo hi 1 with
  | true =>
    refine wpAny_pyIter_range (IsRange.new ..) hs ?_
    refine ⟨(s.heap.push { cls := .type "range", data := .fields #[.int lo t, .int hi u, .int 1 v] }).objs.size, [(s.heap.push { cls := .type "range", data := .fields #[.int lo t, .int hi u, .int 1 v] }).objs.size], _, _, H, rfl,
      I1.kept (t' := tk) fun b o e => Heap.get?_push_of_some _ e, turn_range _ lo (hi - lo).toNat, ?_, fun b hb => ?_, q⟩
    · show IsRangeIter _ _ (lo + ((0 : Nat) : Int) * 1) ((((hi - lo).toNat : Nat) : Int) - ((0 : Nat) : Int)) 1
      rw [e1, e2]
      exact Heap.get?_push_size _ rfl
    · have e : b = (s.heap.push { cls := .type "range", data := .fields #[.int lo t, .int hi u, .int 1 v] }).objs.size := by simpa using hb
      subst e
      exact I1.fpOk (Nat.le_refl _) (I1.hok.fresh (Nat.le_refl _))
  | false =>
    refine wpAny_pyIter_longrange (IsRange.new ..) hs ?_
    refine ⟨(s.heap.push { cls := .type "range", data := .fields #[.int lo t, .int hi u, .int 1 v] }).objs.size, [(s.heap.push { cls := .type "range", data := .fields #[.int lo t, .int hi u, .int 1 v] }).objs.size], _, _, H, rfl,
      I1.kept (t' := tk) fun b o e => Heap.get?_push_of_some _ e, turn_long _ lo (hi - lo).toNat, ?_, fun b hb => ?_, q⟩
    · show IsLongIter _ _ (lo + ((0 : Nat) : Int) * 1) ((((hi - lo).toNat : Nat) : Int) - ((0 : Nat) : Int)) 1
      rw [e1, e2]
      exact Heap.get?_push_size _ rfl
    · have e : b = (s.heap.push { cls := .type "range", data := .fields #[.int lo t, .int hi u, .int 1 v] }).objs.size := by simpa using hb
      subst e
      exact I1.fpOk (Nat.le_refl _) (I1.hok.fresh (Nat.le_refl _))
def iRng2W (ta : TA) : TI := fun σ H R => ta σ H fun vs H1 => ∃ i j : Int, vs = [.int i, .int j] ∧ R (Itr i (j - i).toNat) H1
theorem pi_range2W {a b : Expr} {ta : TA} {p pos : Pos} (hg : Gl X "range") (hm : X.mg "range" = none) (ha : PA X [a, b] ta) (hs : starEach [a, b] X.env = [(false, eval a X.env), (false, eval b X.env)] := by rfl) (hs2 : starEach [b] X.env = [(false, eval b X.env)] := by rfl) :
    PI X tg (.Call (.Name "range" p) [a, b] [] pos) (iRng2W ta) := by
  refine ⟨fun pins s σ H R I h => ?_⟩
  refine Call_ (ld_blt I hg hm boot_range (PyProof.Rows.callWith_type1 (thn (ha.run pos pins s σ H _ I h) fun us s1 ⟨vs, H1, I1, r1, q1⟩ => ?_) (by rw [hs, hs2]) (by rw [hs2]; rfl)))
  obtain ⟨i, j, e, q⟩ := q1
  subst e
  cases r1 with
  | cons r rr =>
    cases rr with
    | cons r' rr =>
      cases rr
      obtain ⟨t, rfl⟩ := r
      obtain ⟨t', rfl⟩ := r'
      exact call_range_2 (range_itW I1 q)
end
end L2
set_option Elab.async false
set_option linter.all false
set_option maxRecDepth 100000
set_option maxHeartbeats 1000000
set_option exponentiation.threshold 20000
namespace K12
open PySem PySem.Spec PyProof.Rows L2 Fen
/-- both ends of a row, or none -/
def opD : Option Hull.P → PyData
  | none => .none
  | some p => ptD p
def OpAt (K : PySem.W.Frag) (H : Hp) (v : V) : Option Hull.P → Prop
  | none => v = .non
  | some p => ∃ a, v = .ref a ∧ SqT K H a [.int p.1, .int p.2]
theorem OpAt.dp {K : PySem.W.Frag} {H : Hp} {v : V} : ∀ {o : Option Hull.P}, OpAt K H v o → Dp K H v (opD o)
  | none, h => by
    rw [show v = V.non from h]
    exact .non
  | some p, ⟨a, e, t⟩ => by
    rw [e]
    exact dp_pt t
theorem OpAt.same {K : PySem.W.Frag} {H H' : Hp} {v : V} (s : Same H H') : ∀ {o : Option Hull.P}, OpAt K H v o → OpAt K H' v o
  | none, h => h
  | some p, ⟨a, e, t⟩ => ⟨a, e, s.seqT t⟩
/-- the ends of what stands in a row -/
def RowE (A : Int → Prop) : Option Hull.P → Prop
  | none => ∀ x, ¬ A x
  | some p => p.1 ≤ p.2 ∧ ∀ x, A x ↔ p.1 ≤ x ∧ x ≤ p.2
theorem RowE.one {A : Int → Prop} : ∀ {e e' : Option Hull.P}, RowE A e → RowE A e' → e = e'
  | none, none, _, _ => rfl
  | none, some p, h, ⟨h1, h2⟩ => absurd ((h2 p.1).mpr ⟨Int.le_refl _, h1⟩) (h _)
  | some p, none, ⟨h1, h2⟩, h => absurd ((h2 p.1).mpr ⟨Int.le_refl _, h1⟩) (h _)
  | some p, some q, ⟨h1, h2⟩, ⟨k1, k2⟩ => by
    have a1 := (k2 p.1).mp ((h2 p.1).mpr ⟨Int.le_refl _, h1⟩)
    have a2 := (k2 p.2).mp ((h2 p.2).mpr ⟨h1, Int.le_refl _⟩)
    have a3 := (h2 q.1).mp ((k2 q.1).mpr ⟨Int.le_refl _, k1⟩)
    have a4 := (h2 q.2).mp ((k2 q.2).mpr ⟨k1, Int.le_refl _⟩)
    exact congrArg some (Prod.ext (by omega) (by omega))
/-- how many -/
def cntE : Option Hull.P → Int
  | none => 0
  | some p => p.2 - p.1 + 1
theorem span_mem {lo n : Int} {x : Int} : x ∈ (List.range n.toNat).map (fun (i : Nat) => lo + (i : Int)) ↔ lo ≤ x ∧ x < lo + n := by
  rw [List.mem_map]
  constructor
  · rintro ⟨i, hi, rfl⟩
    have := List.mem_range.mp hi
    omega
  · rintro ⟨h1, h2⟩
    exact ⟨(x - lo).toNat, List.mem_range.mpr (by omega), by omega⟩
theorem RowE.cnt {A : Int → Prop} {l : List Int} (nd : l.Nodup) (mem : ∀ x, x ∈ l ↔ A x) : ∀ {e : Option Hull.P}, RowE A e → (l.length : Int) = cntE e
  | none, h => by
    have : l = [] := List.eq_nil_iff_forall_not_mem.mpr fun x hx => h x ((mem x).mp hx)
    rw [this]
    rfl
  | some p, ⟨h1, h2⟩ => by
    have nd2 : ((List.range (p.2 - p.1 + 1).toNat).map (fun (i : Nat) => p.1 + (i : Int))).Nodup := by
      refine List.pairwise_map.mpr (List.Pairwise.imp (fun {a b} (h : a < b) => by omega) List.pairwise_lt_range)
    have := ((List.perm_ext_iff_of_nodup nd nd2).mpr fun x => by rw [mem, h2, span_mem]; omega).length_eq
    rw [this, List.length_map, List.length_range]
    show _ = p.2 - p.1 + 1
    omega
theorem int_show62 {i : Int} (h : i.natAbs < 10 ^ 62) : (PyData.int i).showable = true ∧ (PyData.int i).shown.length ≤ 80 := by
  have lg : i.natAbs.log2 < 1920 := Nat.lt_of_lt_of_le (PySem.Flt.log2_lt_of (by decide) (Nat.lt_trans h (by decide : 10 ^ 62 < 2 ^ 220))) (by decide)
  refine ⟨by simp [PyData.showable, lg], ?_⟩
  show (Str.ofString (toString i)).length ≤ 80
  rw [PySem.ofString_length]
  exact Nat.le_trans (PySem.int_text_length_le10 (k := 62) (by decide) h) (by decide)
def OpB : Option Hull.P → Prop
  | none => True
  | some p => p.1.natAbs < 10 ^ 62 ∧ p.2.natAbs < 10 ^ 62
theorem op_show : ∀ {e : Option Hull.P}, OpB e → (opD e).showable = true ∧ (opD e).hasDict = false ∧ (opD e).shown.length ≤ 200 ∧ (opD e).depth ≤ 2
  | none, _ => ⟨rfl, rfl, by decide, by decide⟩
  | some p, ⟨h1, h2⟩ => by
    obtain ⟨a1, a2⟩ := int_show62 h1
    obtain ⟨b1, b2⟩ := int_show62 h2
    refine ⟨by
      simp [PyData.showable] at a1 b1
      simp [opD, ptD, PyData.showable, PyData.showableAll, a1, b1], rfl, ?_, ?_⟩
    · have z := tupleText_len_le (PyData.shownAll [.int p.1, .int p.2])
      simp only [PyData.shownAll, List.map_cons, List.map_nil, List.sum_cons, List.sum_nil, List.length_cons, List.length_nil] at z
      show (tupleText (PyData.shownAll [.int p.1, .int p.2])).length ≤ 200
      simp only [PyData.shownAll]
      omega
    · show (PyData.tuple [.int p.1, .int p.2]).depth ≤ 2
      simp [PyData.depth, PyData.depthAll]
theorem pair_show {e : Option Hull.P} {k : Int} (h : OpB e) (hk : k.natAbs < 10 ^ 62) : (PyData.list [opD e, .int k]).showable = true ∧ (PyData.list [opD e, .int k]).hasDict = false ∧ (PyData.list [opD e, .int k]).shown.length ≤ sizeLine ∧ (PyData.list [opD e, .int k]).depth ≤ 20 := by
  obtain ⟨a1, a2, a3, a4⟩ := op_show h
  obtain ⟨b1, b2⟩ := int_show62 hk
  refine ⟨by
    simp [PyData.showable] at b1
    simp [PyData.showable, PyData.showableAll, a1, b1], by simp [PyData.hasDict, PyData.hasDictAll, a2], ?_, ?_⟩
  · have z := listText_len_le (PyData.shownAll [opD e, .int k])
    simp only [PyData.shownAll, List.map_cons, List.map_nil, List.sum_cons, List.sum_nil, List.length_cons, List.length_nil] at z
    refine sz20 (Nat.le_trans (show (PyData.list [opD e, .int k]).shown.length ≤ _ from z) (by omega))
  · simp only [PyData.depth, PyData.depthAll]
    omega
/-- how far a stake can be -/
theorem bel_far {b n px row : Int} {cs : List Hull.P} {os : List Int} (isf : IsF b cs os) (n1 : 1 ≤ n) (n2 : n ≤ 10 ^ 30) (h : Geo.Bel b n cs os px row) : px.natAbs ≤ 10 ^ 60 ∧ row.natAbs ≤ 10 ^ 60 := by
  obtain ⟨⟨a1, a2⟩, a3, a4⟩ := bel_box isf (by omega) h
  have b1 := isf.b1
  have e30 : (10 : Int) ^ 30 = 1000000000000000000000000000000 := by decide
  have e60 : (10 : Nat) ^ 60 = 1000000000000000000000000000000000000000000000000000000000000 := by decide
  have up : ∀ x : Int, x ≤ 10 ^ 30 → n * x ≤ 1000000000000000000000000000000000000000000000000000000000000 := fun x hx => by
    have h1 : n * x ≤ n * 10 ^ 30 := Int.mul_le_mul_of_nonneg_left hx (by omega)
    have h2 : n * 10 ^ 30 ≤ 10 ^ 30 * 10 ^ 30 := Int.mul_le_mul_of_nonneg_right n2 (by decide)
    exact Int.le_trans (Int.le_trans h1 h2) (by decide)
  have dn : ∀ x : Int, -(10 ^ 30) ≤ x → -1000000000000000000000000000000000000000000000000000000000000 ≤ n * x := fun x hx => by
    have := up (-x) (by omega)
    rw [Int.mul_neg] at this
    omega
  have fin : ∀ z : Int, b * z ≤ 1000000000000000000000000000000000000000000000000000000000000 → -1000000000000000000000000000000000000000000000000000000000000 ≤ b * z → z.natAbs ≤ 10 ^ 60 := fun z h1 h2 => by
    rw [e60]
    have k1 : z ≤ 1000000000000000000000000000000000000000000000000000000000000 := by
      refine Classical.byContradiction fun w => ?_
      have : 1 * z ≤ b * z := Int.mul_le_mul_of_nonneg_right b1 (by omega)
      omega
    have k2 : -1000000000000000000000000000000000000000000000000000000000000 ≤ z := by
      refine Classical.byContradiction fun w => ?_
      have : 1 * (-z) ≤ b * (-z) := Int.mul_le_mul_of_nonneg_right b1 (by omega)
      rw [Int.mul_neg b z] at this
      omega
    omega
  refine ⟨fin px (a1 _ fun c hc => up _ (isf.co c hc).2.1) (a2 _ fun c hc => dn _ (isf.co c hc).1), fin row (a3 _ fun c hc => up _ (isf.co c hc).2.2.2) (a4 _ fun c hc => dn _ (isf.co c hc).2.2.1)⟩
theorem row_op {b n row : Int} {cs : List Hull.P} {os : List Int} (isf : IsF b cs os) (n1 : 1 ≤ n) (n2 : n ≤ 10 ^ 30) : ∀ {e : Option Hull.P}, RowE (fun px => Geo.Bel b n cs os px row) e → OpB e ∧ (cntE e).natAbs < 10 ^ 62
  | none, _ => ⟨trivial, by decide⟩
  | some p, ⟨h1, h2⟩ => by
    have e60 : (10 : Nat) ^ 60 = 1000000000000000000000000000000000000000000000000000000000000 := by decide
    have e62 : (10 : Nat) ^ 62 = 100000000000000000000000000000000000000000000000000000000000000 := by decide
    have k1 := (bel_far isf n1 n2 ((h2 p.1).mpr ⟨Int.le_refl _, h1⟩)).1
    have k2 := (bel_far isf n1 n2 ((h2 p.2).mpr ⟨h1, Int.le_refl _⟩)).1
    rw [e60] at k1 k2
    unfold OpB cntE
    rw [e62]
    simp only
    omega
abbrev sLvs : Stmt := topS 68
abbrev nLvs : List Str := ["_law_pool_here", "_law_plot_here", "_law_often", "_law_low", "_law_corners_here", "_law_shut", "_law_found", "_law_x", "_law_y", "_law_down", "_law_up", "_law_turn_here"]
theorem scLvs : FnScope nLvs ["_law_pool_here", "_law_plot_here", "_law_often"] (defScope sLvs) := ⟨rfl, rfl, rfl, by decide +kernel, rfl, by decide +kernel, by decide +kernel⟩
theorem SqT.drew {K : PySem.W.Frag} {H H' : Hp} {a p : Addr} {xs : List V} {n m : Nat} (f : SqT K H a xs) (hb : BagAt H p n) (d : Drew p H H' m) : SqT K H' a xs := by
  obtain ⟨_, _, _, e, _⟩ := hb
  exact L2.SqT.put f e d.x
theorem FAt.drew {K : PySem.W.Frag} {H H' : Hp} {t c o p : Addr} {b : Int} {ks : Pts} {os : List Int} {n m : Nat} (f : FAt K H t c o b ks os) (hb : BagAt H p n) (d : Drew p H H' m) (cp : c ≠ p) (op : o ≠ p) : FAt K H' t c o b ks os :=
  ⟨SqT.drew f.tup hb d, SameX.seqL d.x cp f.cor, At.drew f.pts hb d, SameX.seqL d.x op f.sid⟩
section
variable {P : Program} {w : World} {K : PySem.W.Frag} {mg : Str → Option Value} {base : Heap}
/-- rows at and beside corners, in the box, far off -/
def spLvs (K : PySem.W.Frag) : Sp := fun vs H Q _ => ∃ (p t c o : Addr) (b n : Int) (ks : Pts) (os : List Int) (m : Nat), vs = [.ref p, .ref t, .int n] ∧ BagAt H p m ∧ m + 30 ≤ 1000000 ∧ FAt K H t c o b ks os ∧ c ≠ p ∧ o ≠ p ∧ IsF b (ks.map (·.2)) os ∧ 1 ≤ n ∧ n ≤ 10 ^ 30 ∧
  ∀ H' F (ls : List Int), Drew p H H' (m + 20) → H F = none → H' F = some (.lst (ls.map V.int)) → (∀ l ∈ ls, l.natAbs < 2 ^ 350) → Q (.ref F) H'
theorem ok_lvs {f fD fX : Addr} {fd fdD fdX : FuncData} {k : Nat} (F : Fun K "_law_levels" "_law_levels" sLvs f fd) (mmax : mg "max" = none) (mr : mg "range" = none)
    (CD : Cal P w K mg base (k + 1) "_law_draw" fD fdD ["_law_pool_here", "_law_span"] spDrw) (CX : Cal P w K mg base (k + 1) "_law_box" fX fdX ["_law_plot_here", "_law_often"] (spBox K)) :
    FnOk P w K mg base CX0 (k + 1 + 1) f fd ["_law_pool_here", "_law_plot_here", "_law_often"] (spLvs K) := by
  refine F.ok scLvs (fun vs H Q E h => ?_) (fun cdv A outer s H vs Q E hr h => ?_)
  · obtain ⟨p, t, c, o, b, n, ks, os, m, rfl, _⟩ := h
    rfl
  · obtain ⟨p, t, c, o, b, n, ks, os, m, rfl, hb, hm, fa, cp, op, isf, n1, n2, q⟩ := h
    refine ⟨_, pss_cons (ps_asg (pv 1) (pg_tup rfl (pgs_cons (pg_name (i := 3) scLvs.nd rfl (.inl rfl)) (pgs_cons (pg_name (i := 4) scLvs.nd rfl (.inl rfl)) (pgs_cons (pg_name (i := 5) scLvs.nd rfl (.inl rfl)) pgs_nil)))))
      (pss_cons (ps_set (i := 6) scLvs.nd rfl (.inl rfl) (pe_lst (pa_cons (pe_op op_mulW (pe_op op_pow pe_int pe_int) (pe_op op_pow pe_int pe_int)) (pa_cons (pe_op op_sub pe_int (pe_op op_mulW (pe_op op_pow pe_int pe_int) (pe_op op_pow pe_int pe_int))) pa_nil))))
      (pss_cons (ps_for PassesOwn.never rfl (pi_list (pv 4)) (pg_tup rfl (pgs_cons (pg_name (i := 7) scLvs.nd rfl (.inl rfl)) (pgs_cons (pg_name (i := 8) scLvs.nd rfl (.inl rfl)) pgs_nil)))
        (pss_one (ps_set (i := 6) scLvs.nd rfl (.inl rfl) (pe_op op_cat (pv 6) (pe_lst (pa_cons (pe_op op_fdivW (pe_op op_mulW (pv 2) (pv 8)) (pv 3)) (pa_cons (pe_op op_add (pe_op op_fdivW (pe_op op_mulW (pv 2) (pv 8)) (pv 3)) (pe_ix ix_list (pe_lst (pa_cons pe_int (pa_cons (pe_un un_neg pe_int) pa_nil))) (pe_cal CD hr (pa_cons (pv 0) (pa_cons pe_int pa_nil))) (fun _ _ => rfl))) pa_nil)))))))
      (pss_cons (ps_asg (pe_ix ix_list (pe_cal CX hr (pa_cons (pv 1) (pa_cons (pv 2) pa_nil))) pe_int (fun _ _ => rfl)) (pg_tup rfl (pgs_cons (pg_name (i := 9) scLvs.nd rfl (.inr rfl)) (pgs_cons (pg_name (i := 10) scLvs.nd rfl (.inr rfl)) pgs_nil))))
      (pss_one (ps_ret (pe_op op_cat (pv 6) (pe_lc (own := [("_law_turn_here", 11)]) (g := gName 11) (tt := tYes) (te := tOp (rI0 fun i j => .int (i + j)) (tVar 9) (tCall spDrw [] E0 (tCons (tVar 0) (tCons (tCB (fun xs H Q => ∃ i j, xs = [.int i, .int j] ∧ Q (.int (if j > i then j else i)) H) (tCons (tC (.int 1)) (tCons (tOp (rI0 fun i j => .int (i + j)) (tOp (rI0 fun i j => .int (i - j)) (tVar 10) (tVar 9)) (tC (.int 1))) tNil))) tNil)))) rfl scLvs.nd (pi_range1 (by rfl) mr (pa_cons pe_int pa_nil)) (blkOk_by (N := nLvs) (sc := defScope sLvs) (by decide +kernel)) (fun _ _ _ _ _ => pg_name (i := 11) scLvs.nd rfl (Or.inl rfl)) (fun _ _ _ _ _ => pts_nil)
          (fun _ _ _ _ _ => pe_op op_add (pv 9) (pe_cal CD hr (pa_cons (pv 0) (pa_cons (pe_callB (call_max2 rfl) (by rfl) mmax (by decide +kernel) (pa_cons pe_int (pa_cons (pe_op op_add (pe_op op_sub (pv 10) (pv 9)) pe_int) pa_nil))) pa_nil))))))))))), ?_⟩
    have b1 := isf.b1
    have b2 := isf.b2
    have l1 := isf.l1
    have l2 := isf.l2
    rw [List.length_map] at l1 l2
    have nb := n_small n1 n2
    have bp : 0 < b := by omega
    have bb : b.natAbs < 2 ^ 100 := Nat.lt_of_le_of_lt (show b.natAbs ≤ 30 by omega) (by decide)
    have wd : ∀ x : Int, CDivW x b := fun x => wide_div bp bb (by decide) (by decide)
    have e99 : ((10 : Int) ^ (49 : Int).toNat * 10 ^ (50 : Int).toNat).natAbs < 2 ^ 350 := by decide +kernel
    have e99' : (0 - (10 : Int) ^ (49 : Int).toNat * 10 ^ (50 : Int).toNat).natAbs < 2 ^ 350 := by decide +kernel
    have w49 : CMulW ((10 : Int) ^ (49 : Int).toNat) ((10 : Int) ^ (50 : Int).toNat) := wide_mul (a := 200) (b := 200) (by decide +kernel) (by decide +kernel) (by decide) (by decide) (by decide)
    refine ⟨.ref t, rfl, t, _, rfl, fa.tup, rfl, .int b, [.ref c, .ref o], rfl, .ref c, [.ref o], rfl, .ref o, [], rfl, rfl, ?_⟩
    refine ⟨10, 49, rfl, rfl, ⟨by decide, by decide, by decide⟩, 10, 50, rfl, rfl, ⟨by decide, by decide, by decide⟩, _, _, rfl, rfl, w49, ?_⟩
    refine ⟨10, 49, rfl, rfl, ⟨by decide, by decide, by decide⟩, 10, 50, rfl, rfl, ⟨by decide, by decide, by decide⟩, _, _, rfl, rfl, w49, _, _, rfl, rfl, by show 2 ≤ sizeLine; decide, fun G0 nG0 => ?_⟩
    have k1 := same_new (o := .lst [.int ((10 : Int) ^ (49 : Int).toNat * 10 ^ (50 : Int).toNat), .int (0 - (10 : Int) ^ (49 : Int).toNat * 10 ^ (50 : Int).toNat)]) nG0
    have g1 : (upd H G0 (.lst [.int ((10 : Int) ^ (49 : Int).toNat * 10 ^ (50 : Int).toNat), .int (0 - (10 : Int) ^ (49 : Int).toNat * 10 ^ (50 : Int).toNat)])) G0 = some (.lst [.int ((10 : Int) ^ (49 : Int).toNat * 10 ^ (50 : Int).toNat), .int (0 - (10 : Int) ^ (49 : Int).toNat * 10 ^ (50 : Int).toNat)]) := upd_same
    generalize upd H G0 (.lst [.int ((10 : Int) ^ (49 : Int).toNat * 10 ^ (50 : Int).toNat), .int (0 - (10 : Int) ^ (49 : Int).toNat * 10 ^ (50 : Int).toNat)]) = H1 at k1 g1 ⊢
    obtain ⟨Z0, hZ⟩ : ∃ Z0, (10 : Int) ^ (49 : Int).toNat * 10 ^ (50 : Int).toNat = Z0 := ⟨_, rfl⟩
    rw [hZ] at g1 e99 e99'
    have d1 : Drew p H H1 m := Drew.of hb k1
    have f1 := fa.same k1
    refine ⟨.ref c, rfl, c, rfl, ⟨_, f1.cor⟩, ?_⟩
    refine for_list (K := K) (a := c) (xs := refs ks) (fun j σ H' => ∃ (y7 y8 : Option V) (G : Addr) (ls : List Int), σ = [some (.ref p), some (.ref t), some (.int n), some (.int b), some (.ref c), some (.ref o), some (.ref G), y7, y8, none, none, none] ∧ Drew p H H' (m + j) ∧ H G = none ∧ G ≠ p ∧ H' G = some (.lst (ls.map V.int)) ∧ ls.length = 2 + 2 * j ∧ ∀ l ∈ ls, l.natAbs < 2 ^ 350) ⟨_, _, G0, [Z0, 0 - Z0], rfl, d1, nG0, fun z => ?_, g1, rfl, fun l hl => ?_⟩ (fun j σ H' _ z => ?_) ?_ ?_
    · obtain ⟨_, _, _, e, _⟩ := hb
      rw [z, e] at nG0
      cases nG0
    · rcases List.mem_cons.mp hl with rfl | h
      · exact e99
      · rw [List.mem_singleton.mp h]
        exact e99'
    · obtain ⟨_, _, _, _, _, z, _⟩ := z
      exact (FAt.drew fa hb z cp op).cor
    · rintro j v σ H2 hv ⟨y7, y8, G, ls, rfl, d2, nG, Gp, hG, lls, lb⟩
      obtain ⟨x, hx, rfl⟩ := refs_get hv
      have mx := List.mem_of_getElem? hx
      have jl : j < ks.length := (List.getElem?_eq_some_iff.mp hx).1
      obtain ⟨sx, sy⟩ := cor_small (isf.co x.2 (List.mem_map.mpr ⟨x, mx, rfl⟩))
      have f2 := FAt.drew fa hb d2 cp op
      refine ⟨x.1, _, rfl, f2.pts x mx, rfl, .int x.2.1, [.int x.2.2], rfl, .int x.2.2, [], rfl, rfl, ?_⟩
      refine ⟨.ref G, rfl, _, rfl, _, rfl, _, _, rfl, rfl, wide_mul nb sy (by decide) (by decide) (by decide), _, rfl, _, _, rfl, rfl, wd _, ?_⟩
      refine ⟨_, rfl, _, rfl, _, _, rfl, rfl, wide_mul nb sy (by decide) (by decide) (by decide), _, rfl, _, _, rfl, rfl, wd _, 1, rfl, by show 2 ≤ sizeLine; decide, fun u3 nu3 => ?_⟩
      have k3 := same_new (o := .lst [.int 1, .int (-1)]) nu3
      have g3 : (upd H2 u3 (.lst [.int 1, .int (-1)])) u3 = some (.lst [.int 1, .int (-1)]) := upd_same
      have d3 := d2.new k3
      have u3p := d2.list_ne nu3
      have hG3 := k3 _ _ hG
      generalize upd H2 u3 (.lst [.int 1, .int (-1)]) = H3 at k3 g3 d3 hG3 ⊢
      refine ⟨_, rfl, p, 2, _, rfl, by decide, by decide +kernel, d3.bag, by omega, fun r H4 r0 r1 d4 o4 => ?_⟩
      obtain ⟨s1, hs1, sb1⟩ : ∃ s1 : Int, atI [V.int 1, .int (-1)] r = some (.int s1) ∧ s1.natAbs ≤ 1 := by
        have : r = 0 ∨ r = 1 := by omega
        rcases this with rfl | rfl
        · exact ⟨1, rfl, by decide⟩
        · exact ⟨-1, rfl, by decide⟩
      have d4' := d3.then d4
      have hG4 : H4 G = some (.lst (ls.map V.int)) := by rw [o4 G Gp]; exact hG3
      refine ⟨u3, _, _, .int s1, rfl, rfl, SqL.of (by rw [o4 u3 u3p]; exact g3), hs1, _, _, rfl, rfl, by show 2 ≤ sizeLine; decide, fun u5 nu5 => ?_⟩
      have k5 := same_new (o := .lst [.int (n * x.2.2 / b), .int (n * x.2.2 / b + s1)]) nu5
      have g5 : (upd H4 u5 (.lst [.int (n * x.2.2 / b), .int (n * x.2.2 / b + s1)])) u5 = some (.lst [.int (n * x.2.2 / b), .int (n * x.2.2 / b + s1)]) := upd_same
      have d5 := d4'.new k5
      have hG5 := k5 _ _ hG4
      generalize upd H4 u5 (.lst [.int (n * x.2.2 / b), .int (n * x.2.2 / b + s1)]) = H5 at k5 g5 d5 hG5 ⊢
      refine ⟨G, u5, _, _, rfl, rfl, hG5, g5, ?_, fun G' nG' => ?_⟩
      · rw [List.length_map, lls]
        exact sz20 (show 2 + 2 * j + 2 ≤ 4096 by omega)
      have k6 := same_new (o := .lst (ls.map V.int ++ [.int (n * x.2.2 / b), .int (n * x.2.2 / b + s1)])) nG'
      have q1 := Int.natAbs_ediv_le_natAbs (n * x.2.2) b
      have q2 := wide_lt nb sy
      refine ⟨_, _, G', ls ++ [n * x.2.2 / b, n * x.2.2 / b + s1], rfl, d5.new k6, d5.free nG', d5.list_ne nG', by rw [upd_same, List.map_append]; rfl, by rw [List.length_append, lls]; show 2 + 2 * j + 2 = _; omega, fun l hl => ?_⟩
      have e350 : (2 : Nat) ^ (100 + 100) + 1 < 2 ^ 350 := by decide +kernel
      rcases List.mem_append.mp hl with w | w
      · exact lb l w
      · generalize (2 : Nat) ^ (100 + 100) = X at *
        generalize (2 : Nat) ^ 350 = Z at *
        rcases List.mem_cons.mp w with rfl | w
        · omega
        · rw [List.mem_singleton.mp w]
          omega
    · rintro σ H2 ⟨y7, y8, G, ls, rfl, d2, nG, Gp, hG, lls, lb⟩
      rw [refs_len] at d2 lls
      have f2 := FAt.drew fa hb d2 cp op
      refine ⟨.ref t, rfl, .int n, rfl, t, c, o, b, n, ks, os, rfl, f2, isf, n1, n2, fun H3 f z0 z1 s3 nf hf T3 bx0 bx1 i0 i1 => ?_⟩
      have hz1 := T3 z1 (by simp)
      refine ⟨f, _, 1, .ref z1.1, rfl, rfl, SqL.of hf, rfl, z1.1, _, rfl, hz1, rfl, .int z1.2.1, [.int z1.2.2], rfl, .int z1.2.2, [], rfl, rfl, ?_⟩
      have d3 := d2.new s3
      have hG3 := s3 _ _ hG
      refine ⟨.ref G, rfl, 5, rfl, by decide, by decide, fun D nD => ?_⟩
      have DH := d3.free nD
      have Dp := d3.list_ne nD
      have GD : G ≠ D := fun z => by rw [← z, hG3] at nD; cases nD
      have e350 : (2 : Nat) ^ 300 * 4 < 2 ^ 350 := by decide +kernel
      have e1000 : (2 : Nat) ^ 300 * 4 < 2 ^ 1000 := by decide +kernel
      refine lc_range (lo := 0) (n := (5 : Int).toNat) (fun j H' => ∃ rs : List Int, Drew p H H' (m + ks.length + j) ∧ H' G = some (.lst (ls.map V.int)) ∧ H' D = some (.lst (rs.map V.int)) ∧ rs.length = j ∧ ∀ l ∈ rs, l.natAbs < 2 ^ 350) ⟨[], d3.new (same_new nD), (same_new nD) _ _ hG3, upd_same, rfl, fun l hl => nomatch hl⟩ ?_ ?_
      · rintro j H4 hj ⟨rs, d4, hG4, hD4, lrs, rb⟩
        have j5 : j < 5 := hj
        have bd1 := bx1.1
        have bd2 := bx1.2
        refine ⟨rfl, yesT ?_⟩
        refine ⟨_, rfl, _, rfl, _, rfl, _, rfl, _, _, rfl, rfl, _, _, rfl, rfl, 1, _, rfl, p, _, _, rfl, ?_, ?_, d4.bag, by omega, fun r H5 r0 r1 d5 o5 => ?_⟩
        · split <;> omega
        · have : ((if z1.2.2 - z1.2.1 + 1 > 1 then z1.2.2 - z1.2.1 + 1 else 1) : Int) < ((2 ^ 1000 : Nat) : Int) := by
            generalize (2 : Nat) ^ 300 = X at *
            generalize (2 : Nat) ^ 1000 = Z at *
            split <;> omega
          rw [show (2 : Int) ^ 1000 = ((2 ^ 1000 : Nat) : Int) by rw [Int.natCast_pow]; rfl]
          exact this
        · have hG5 : H5 G = some (.lst (ls.map V.int)) := by rw [o5 G Gp]; exact hG4
          have hD5 : H5 D = some (.lst (rs.map V.int)) := by rw [o5 D Dp]; exact hD4
          refine ⟨_, _, rfl, rfl, _, hD5, ?_, rs ++ [z1.2.1 + r], ?_, (upd_ne GD).trans hG5, ?_, by rw [List.length_append, lrs]; rfl, fun l hl => ?_⟩
          · rw [List.length_map, lrs]
            exact Nat.lt_of_lt_of_le (show j < 6 by omega) (by decide)
          · exact ((d4.then d5).put DH Dp) |> fun d => ⟨d.x, d.bag.more (by omega)⟩
          · rw [upd_same, List.map_append]
            rfl
          · rcases List.mem_append.mp hl with w | w
            · exact rb l w
            · rw [List.mem_singleton.mp w]
              generalize (2 : Nat) ^ 300 = X at *
              generalize (2 : Nat) ^ 350 = Z at *
              split at r1 <;> omega
      · rintro H4 ⟨rs, d4, hG4, hD4, lrs, rb⟩
        refine ⟨G, D, _, _, rfl, rfl, hG4, hD4, ?_, fun F nF => ?_⟩
        · rw [List.length_map, List.length_map, lls, lrs]
          exact sz20 (show 2 + 2 * ks.length + (5 : Int).toNat ≤ 4096 by have : (5 : Int).toNat = 5 := rfl; omega)
        · have dF := d4.new (same_new (o := .lst (ls.map V.int ++ rs.map V.int)) nF)
          refine q _ F (ls ++ rs) (dF |> fun d => ⟨d.x, d.bag.more (by have : (5 : Int).toNat = 5 := rfl; omega)⟩) (d4.free nF) (by rw [upd_same, List.map_append]) fun l hl => ?_
          rcases List.mem_append.mp hl with w | w
          · exact lb l w
          · exact rb l w
end
end K12
set_option Elab.async false
set_option linter.all false
set_option maxRecDepth 100000
set_option maxHeartbeats 1000000
set_option exponentiation.threshold 20000
namespace K12
open PySem PySem.Spec PyProof.Rows L2 Fen
theorem rows_le {f : Int → List Int} {a : Int} {W : Nat} (h : ∀ y, (f y).length ≤ W) : ∀ n, (Cnt.rowsL f a n).length ≤ n * W
  | 0 => by simp [Cnt.rowsL, Cnt.from_]
  | n + 1 => by
    rw [Cnt.rows_succ, List.length_append, List.length_map, Nat.add_mul, Nat.one_mul]
    have := rows_le h (a := a) n
    have := h (a + n)
    omega
theorem small_of {b x N : Int} (b1 : 1 ≤ b) (h1 : b * x ≤ N) (h2 : -N ≤ b * x) : -N ≤ x ∧ x ≤ N := by
  by_cases x0 : 0 ≤ x
  · have : 1 * x ≤ b * x := Int.mul_le_mul_of_nonneg_right b1 x0
    omega
  · have : b * x ≤ 1 * x := Int.mul_le_mul_of_nonpos_right b1 (by omega)
    omega
/-- all stakes of a fence, in their sequence -/
theorem stakes_ex {b n far : Int} {cs : List Hull.P} {os : List Int} (isf : IsF b cs os) (n1 : 1 ≤ n) (f0 : 0 ≤ far) (hc : ∀ c ∈ cs, CorB far c) :
    ∃ l : List Cnt.S, l.Pairwise Yx ∧ (∀ px row, (px, row) ∈ l ↔ Geo.Bel b n cs os px row) ∧ (∀ px row, Geo.Bel b n cs os px row → (-(n * far) ≤ px ∧ px ≤ n * far) ∧ -(n * far) ≤ row ∧ row ≤ n * far) ∧ l.length ≤ (2 * (n * far) + 1).toNat * (2 * (n * far) + 1).toNat := by
  have nf : 0 ≤ n * far := Int.mul_nonneg (by omega) f0
  have b1 := isf.b1
  have up : ∀ c ∈ cs, (n * c.1 ≤ n * far ∧ -(n * far) ≤ n * c.1) ∧ n * c.2 ≤ n * far ∧ -(n * far) ≤ n * c.2 := fun c k => by
    obtain ⟨a1, a2, a3, a4⟩ := hc c k
    have n0 : 0 ≤ n := by omega
    have e1 := Int.mul_le_mul_of_nonneg_left a1 n0
    have e2 := Int.mul_le_mul_of_nonneg_left a2 n0
    have e3 := Int.mul_le_mul_of_nonneg_left a3 n0
    have e4 := Int.mul_le_mul_of_nonneg_left a4 n0
    rw [Int.mul_neg] at e1 e3
    exact ⟨⟨e2, e1⟩, e4, e3⟩
  have inb : ∀ px row, Geo.Bel b n cs os px row → (-(n * far) ≤ px ∧ px ≤ n * far) ∧ -(n * far) ≤ row ∧ row ≤ n * far := fun px row h => by
    obtain ⟨⟨a1, a2⟩, a3, a4⟩ := bel_box isf (by omega) h
    exact ⟨small_of b1 (a1 _ fun c k => (up c k).1.1) (a2 _ fun c k => (up c k).1.2), small_of b1 (a3 _ fun c k => (up c k).2.1) (a4 _ fun c k => (up c k).2.2)⟩
  generalize n * far = N at nf inb ⊢
  refine ⟨Cnt.rowsL (fun y => (Cnt.upto (-N) N).filter fun x => B (Geo.Bel b n cs os x y)) (-N) (2 * N + 1).toNat, rows_asc fun y => List.Pairwise.filter _ (from_asc _ _), fun px row => ?_, inb, rows_le (fun y => ?_) _⟩
  · rw [Cnt.mem_rows, List.mem_filter, Cnt.mem_upto]
    constructor
    · rintro ⟨_, _, h⟩
      exact B_iff.mp h
    · intro h
      obtain ⟨i1, i2⟩ := inb px row h
      exact ⟨by omega, i1, B_iff.mpr h⟩
  · refine Nat.le_trans (List.length_filter_le _ _) ?_
    show (Cnt.from_ _ _).length ≤ _
    rw [Cnt.from_len]
    omega
/-- rows go up -/
theorem rows_up {l : List Cnt.S} (asc : l.Pairwise Yx) {p q : Cnt.S} (h0 : l[0]? = some p) (h1 : l[l.length - 1]? = some q) : ∀ r ∈ l, p.2 ≤ r.2 ∧ r.2 ≤ q.2 := fun r hr => by
  obtain ⟨j, hj⟩ := List.mem_iff_getElem?.mp hr
  have lj := (List.getElem?_eq_some_iff.mp hj).1
  constructor
  · by_cases e : j = 0
    · subst e
      rw [h0] at hj
      cases hj
      exact Int.le_refl _
    · have := List.pairwise_iff_getElem.mp asc 0 j (by omega) lj (by omega)
      rw [(List.getElem?_eq_some_iff.mp h0).2, (List.getElem?_eq_some_iff.mp hj).2] at this
      unfold Yx at this
      omega
  · by_cases e : j = l.length - 1
    · subst e
      rw [h1] at hj
      cases hj
      exact Int.le_refl _
    · have := List.pairwise_iff_getElem.mp asc j (l.length - 1) lj (by omega) (by omega)
      rw [(List.getElem?_eq_some_iff.mp hj).2, (List.getElem?_eq_some_iff.mp h1).2] at this
      unfold Yx at this
      omega
theorem asc_nodup {l : List Cnt.S} (asc : l.Pairwise Yx) : l.Nodup := List.Pairwise.imp (fun {a b} h e => by
  subst e
  unfold Yx at h
  omega) asc
abbrev sRt : Stmt := topS 69
abbrev nRt : List Str := ["_law_pool_here", "_law_plot_here", "_law_often", "_law_kept", "_law_level", "_law_due", "_law_many"]
theorem scRt : FnScope nRt ["_law_pool_here", "_law_plot_here", "_law_often"] (defScope sRt) := ⟨rfl, rfl, rfl, by decide +kernel, rfl, by decide +kernel, by decide +kernel⟩
abbrev sEr : Stmt := topS 70
abbrev nEr : List Str := ["_law_plot_here", "_law_often", "_law_told", "_law_first", "_law_last"]
theorem scEr : FnScope nEr ["_law_plot_here", "_law_often"] (defScope sEr) := ⟨rfl, rfl, rfl, by decide +kernel, rfl, by decide +kernel, by decide +kernel⟩
/-- how many are due -/
def tMny (K : PySem.W.Frag) : TE := fun σ H Q => ∃ v e, σ[5]? = some (some v) ∧ OpAt K H v e ∧ Q (.int (cntE e)) H
section
variable {P : Program} {w : World} {K : PySem.W.Frag} {mg : Str → Option Value} {base : Heap}
/-- a row, told as it is due -/
def spRwO (K : PySem.W.Frag) : Sp := fun vs H Q _ => ∃ (t c o : Addr) (b n level : Int) (ks : Pts) (os : List Int), vs = [.ref t, .int n, .int level] ∧ FAt K H t c o b ks os ∧ IsF b (ks.map (·.2)) os ∧ 1 ≤ n ∧ n ≤ 10 ^ 30 ∧ level.natAbs < 2 ^ 350 ∧
  ∀ H' v e, Same H H' → OpAt K H' v e → RowE (fun px => Geo.Bel b n (ks.map (·.2)) os px level) e → Q v H'
theorem ends_of {A : Int → Prop} {H : Hp} {Q : VK} (q : ∀ H' v e, Same H H' → OpAt K H' v e → RowE A e → Q v H') : Ends A H Q :=
  ⟨fun H' s h => q H' .non none s rfl h, fun H' z lo hi s hz le m => q H' (.ref z) (some (lo, hi)) s ⟨z, rfl, SqT.of hz⟩ ⟨le, m⟩⟩
theorem rwo_imp : ∀ vs H Q E, spRwO K vs H Q E → spRow K vs H Q E := by
  rintro vs H Q E ⟨t, c, o, b, n, level, ks, os, rfl, fa, isf, n1, n2, lb, q⟩
  exact ⟨t, c, o, b, n, level, ks, os, rfl, fa, isf, n1, n2, lb, ends_of q⟩
theorem rso_imp : ∀ vs H Q E, spRwO K vs H Q E → spRst K vs H Q E := by
  rintro vs H Q E ⟨t, c, o, b, n, level, ks, os, rfl, fa, isf, n1, n2, lb, q⟩
  exact ⟨t, c, o, b, n, level, ks, os, rfl, fa, isf, n1, n2, Nat.lt_trans lb (by decide +kernel), ends_of q⟩
/-- how many of a row, told as they are due -/
def spRcE (K : PySem.W.Frag) : Sp := fun vs H Q _ => ∃ (t c o : Addr) (b n row : Int) (ks : Pts) (os : List Int) (e : Option Hull.P), vs = [.ref t, .int n, .int row] ∧ FAt K H t c o b ks os ∧ IsF b (ks.map (·.2)) os ∧ 1 ≤ n ∧ n ≤ 10 ^ 30 ∧ row.natAbs < 2 ^ 3000 ∧
  RowE (fun px => Geo.Bel b n (ks.map (·.2)) os px row) e ∧ ∀ H', Same H H' → Q (.int (cntE e)) H'
theorem rce_imp : ∀ vs H Q E, spRcE K vs H Q E → spRwc K vs H Q E := by
  rintro vs H Q E ⟨t, c, o, b, n, row, ks, os, e, rfl, fa, isf, n1, n2, rb, re, q⟩
  refine ⟨t, c, o, b, n, row, ks, os, rfl, fa, isf, n1, n2, rb, fun l H' nd mem s => ?_⟩
  rw [RowE.cnt nd mem re]
  exact q H' s
def spRt (K : PySem.W.Frag) : Sp := fun vs H Q _ => ∃ (p t c o : Addr) (b n : Int) (ks : Pts) (os : List Int) (m : Nat), vs = [.ref p, .ref t, .int n] ∧ BagAt H p m ∧ m + 30 ≤ 1000000 ∧ FAt K H t c o b ks os ∧ c ≠ p ∧ o ≠ p ∧ IsF b (ks.map (·.2)) os ∧ 1 ≤ n ∧ n ≤ 10 ^ 30 ∧
  ∀ H', Drew p H H' (m + 20) → Q (.bl true) H'
theorem ok_rt {f fV fW fS fC : Addr} {fd fdV fdW fdS fdC : FuncData} {k : Nat} (F : Fun K "_law_right" "_law_right" sRt f fd) (mrepr : mg "repr" = none)
    (CV : Cal P w K mg base (k + 1) "_law_levels" fV fdV ["_law_pool_here", "_law_plot_here", "_law_often"] (spLvs K)) (CW : Cal P w K mg base (k + 1) "_law_row" fW fdW ["_law_plot_here", "_law_often", "_law_level"] (spRwO K))
    (CS : Cal P w K mg base (k + 1) "row_stakes" fS fdS ["fence", "size", "row"] (spRwO K)) (CC : Cal P w K mg base (k + 1) "row_count" fC fdC ["fence", "size", "row"] (spRcE K)) :
    FnG P w K mg base CX0 (k + 1 + 1) f fd ["_law_pool_here", "_law_plot_here", "_law_often"] (spRt K) := by
  refine F.okG scRt (fun vs H Q E h => ?_) (fun cdv A outer s H vs Q E hgd hr h => ?_)
  · obtain ⟨p, t, c, o, b, n, ks, os, m, rfl, _⟩ := h
    rfl
  · obtain ⟨p, t, c, o, b, n, ks, os, m, rfl, hb, hm, fa, cp, op, isf, n1, n2, q⟩ := h
    refine ⟨_, pss_cons (ps_set (i := 3) scRt.nd rfl (.inl rfl) (pe_callB (call_reprD hgd hr) (by rfl) mrepr (by decide +kernel) (pa_cons (pv 1) pa_nil)))
      (pss_cons (ps_for PassesOwn.never rfl (pi_list (pe_cal CV hr (pa_cons (pv 0) (pa_cons (pv 1) (pa_cons (pv 2) pa_nil))))) (pg_name (i := 4) scRt.nd rfl (.inl rfl))
        (pss_cons (ps_set (i := 5) scRt.nd rfl (.inl rfl) (pe_cal CW hr (pa_cons (pv 1) (pa_cons (pv 2) (pa_cons (pv 4) pa_nil)))))
        (pss_cons (ps_set (i := 6) scRt.nd rfl (.inl rfl) (PE.of (tMny K) (pe_ifExp (pt_cmpR op_isN (pv 5) pe_non (nomark _)) pe_int (pe_op op_add (pe_op op_sub (pe_ix ix_tup (pv 5) pe_int (fun _ _ => rfl)) (pe_ix ix_tup (pv 5) pe_int (fun _ _ => rfl))) pe_int)) ?tm))
        (pss_one (ps_if (pt_cmpR op_ne (pe_callB (call_reprD hgd hr) (by rfl) mrepr (by decide +kernel) (pa_cons (pe_lst (pa_cons (pe_cal CS hr (pa_cons (pv 1) (pa_cons (pv 2) (pa_cons (pv 4) pa_nil)))) (pa_cons (pe_cal CC hr (pa_cons (pv 1) (pa_cons (pv 2) (pa_cons (pv 4) pa_nil)))) pa_nil))) pa_nil)) (pe_callB (call_reprD hgd hr) (by rfl) mrepr (by decide +kernel) (pa_cons (pe_lst (pa_cons (pv 5) (pa_cons (pv 6) pa_nil))) pa_nil)) (nomark _)) (pss_one (ps_ret pe_bl)) pss_nil)))))
      (pss_one (ps_ret (pe_cmpR op_eq (pe_callB (call_reprD hgd hr) (by rfl) mrepr (by decide +kernel) (pa_cons (pv 1) pa_nil)) (pv 3) (nomark _))))), ?_⟩
    case tm =>
      rintro σ H Q ⟨v, e, e5, at_, q⟩
      cases e with
      | none =>
        rw [show v = V.non from at_] at e5
        exact ⟨_, e5, rfl, _, rfl, iteT q⟩
      | some x =>
        obtain ⟨a, rfl, hT⟩ := at_
        refine ⟨_, e5, rfl, _, rfl, iteF ?_⟩
        exact ⟨.ref a, e5, a, _, 1, .int x.2, rfl, rfl, hT, rfl, .ref a, e5, a, _, 0, .int x.1, rfl, rfl, hT, rfl, _, _, rfl, rfl, _, _, rfl, rfl, q⟩
    have rp := isf.rp
    have shown : ∀ {H' : Hp}, FAt K H' t c o b ks os → Dp K H' (.ref t) (Fen.fD b (ks.map (·.2)) os) := fun f => f.dp
    generalize Fen.fD b (ks.map (·.2)) os = FD at rp shown
    have len : FD.shown.length ≤ sizeLine := Nat.le_trans rp.len (by decide)
    have dep : FD.depth ≤ 20 := Nat.le_trans rp.dep (by decide)
    refine ⟨_, rfl, t, FD, rfl, shown fa, rp.sh, rp.nd, len, dep, ?_⟩
    refine ⟨.ref p, rfl, .ref t, rfl, .int n, rfl, p, t, c, o, b, n, ks, os, m, rfl, hb, by omega, fa, cp, op, isf, n1, n2, fun H1 G ls d1 nG hG lb => ?_⟩
    have f1 := FAt.drew fa hb d1 cp op
    refine ⟨G, rfl, ⟨_, SqL.of hG⟩, ?_⟩
    refine for_list (K := K) (a := G) (xs := ls.map V.int) (fun j σ H' => ∃ y4 y5 y6, σ = [some (.ref p), some (.ref t), some (.int n), some (.str FD.shown), y4, y5, y6] ∧ Same H1 H') ⟨_, _, _, rfl, Same.refl _⟩ (fun j σ H' _ z => ?_) ?_ ?_
    · obtain ⟨_, _, _, _, z⟩ := z
      exact SqL.of (z _ _ hG)
    · rintro j v σ H2 hv ⟨y4, y5, y6, rfl, s2⟩
      obtain ⟨level, hlv, rfl⟩ : ∃ i, ls[j]? = some i ∧ v = .int i := by
        rw [List.getElem?_map] at hv
        cases e : ls[j]? with
        | none => rw [e] at hv; cases hv
        | some i => rw [e] at hv; exact ⟨i, rfl, (Option.some.inj hv).symm⟩
      have lvb := lb level (List.mem_of_getElem? hlv)
      have f2 := f1.same s2
      refine ⟨.ref t, rfl, .int n, rfl, _, rfl, t, c, o, b, n, level, ks, os, rfl, f2, isf, n1, n2, lvb, fun H3 due e s3 at3 re => ?_⟩
      have f3 := f2.same s3
      refine ⟨due, e, rfl, at3, ?_⟩
      refine ⟨.ref t, rfl, .int n, rfl, _, rfl, t, c, o, b, n, level, ks, os, rfl, f3, isf, n1, n2, lvb, fun H4 told e' s4 at4 re' => ?_⟩
      obtain rfl : e' = e := re'.one re
      refine ⟨.ref t, rfl, .int n, rfl, _, rfl, t, c, o, b, n, level, ks, os, e', rfl, f3.same s4, isf, n1, n2, Nat.lt_trans lvb (by decide +kernel), re, fun H5 s5 => ?_⟩
      obtain ⟨ob, cb⟩ := row_op isf n1 n2 re
      obtain ⟨p1, p2, p3, p4⟩ := pair_show ob cb
      refine ⟨by show 2 ≤ sizeLine; decide, fun u nu => ?_⟩
      have s6 := same_new (o := .lst [told, .int (cntE e')]) nu
      refine ⟨u, _, rfl, .lst (SqL.of upd_same) (.cons ((at4.same s5).same s6).dp (.cons (.int _) .nil)), p1, p2, p3, p4, ?_⟩
      generalize upd H5 u (.lst [told, .int (cntE e')]) = H6 at s6 ⊢
      refine ⟨due, rfl, _, rfl, by show 2 ≤ sizeLine; decide, fun u2 nu2 => ?_⟩
      have s7 := same_new (o := .lst [due, .int (cntE e')]) nu2
      refine ⟨u2, _, rfl, .lst (SqL.of upd_same) (.cons ((((at3.same s4).same s5).same s6).same s7).dp (.cons (.int _) .nil)), p1, p2, p3, p4, ?_⟩
      refine ⟨rfl, _, rfl, ?_⟩
      have cmp : (!decide (V.str (PyData.list [opD e', .int (cntE e')]).shown = V.str (PyData.list [opD e', .int (cntE e')]).shown)) = false := by
        rw [decide_eq_true rfl]
        rfl
      refine ite2 (fun e => absurd (cmp.symm.trans e) (by decide)) (fun _ => ?_)
      exact ⟨_, _, _, rfl, ((((s2.trans s3).trans s4).trans s5).trans s6).trans s7⟩
    · rintro σ H2 ⟨y4, y5, y6, rfl, s2⟩
      refine ⟨.ref t, rfl, t, FD, rfl, shown (f1.same s2), rp.sh, rp.nd, len, dep, _, rfl, rfl, ?_⟩
      have z := q H2 (d1.new s2)
      rw [show V.bl true = V.bl (decide (V.str FD.shown = V.str FD.shown)) by rw [decide_eq_true rfl]] at z
      exact z
/-- the first and the last row with a stake -/
def spEr (K : PySem.W.Frag) : Sp := fun vs H Q _ => ∃ (t c o : Addr) (b n : Int) (ks : Pts) (os : List Int), vs = [.ref t, .int n] ∧ FAt K H t c o b ks os ∧ IsF b (ks.map (·.2)) os ∧ 1 ≤ n ∧ n ≤ 10 ^ 30 ∧ ∀ H', Same H H' → Q (.bl true) H'
theorem ok_er {f fS fC fW fB : Addr} {fd fdS fdC fdW fdB : FuncData} {k : Nat} (F : Fun K "_law_ends_right" "_law_ends_right" sEr f fd)
    (CS : Cal P w K mg base (k + 1) "stake_rows" fS fdS ["fence", "size"] (spSrw K)) (CC : Cal P w K mg base (k + 1) "stake_count" fC fdC ["fence", "size"] (spCnt K))
    (CW : Cal P w K mg base (k + 1) "_law_row" fW fdW ["_law_plot_here", "_law_often", "_law_level"] (spRwO K)) (CB : Cal P w K mg base (k + 1) "below_count" fB fdB ["fence", "size", "row"] (spBlw K)) :
    FnOk P w K mg base CX0 (k + 1 + 1) f fd ["_law_plot_here", "_law_often"] (spEr K) := by
  refine F.ok scEr (fun vs H Q E h => ?_) (fun cdv A outer s H vs Q E hr h => ?_)
  · obtain ⟨t, c, o, b, n, ks, os, rfl, _⟩ := h
    rfl
  · obtain ⟨t, c, o, b, n, ks, os, rfl, fa, isf, n1, n2, q⟩ := h
    refine ⟨_, pss_cons (ps_set (i := 2) scEr.nd rfl (.inl rfl) (pe_cal CS hr (pa_cons (pv 0) (pa_cons (pv 1) pa_nil))))
      (pss_cons (ps_if (pt_cmpR op_isN (pv 2) pe_non (nomark _)) (pss_one (ps_ret (pe_cmpR op_eq (pe_cal CC hr (pa_cons (pv 0) (pa_cons (pv 1) pa_nil))) pe_int (nomark _)))) pss_nil)
      (pss_cons (ps_asg (pv 2) (pg_tup rfl (pgs_cons (pg_name (i := 3) scEr.nd rfl (.inl rfl)) (pgs_cons (pg_name (i := 4) scEr.nd rfl (.inl rfl)) pgs_nil))))
      (pss_cons (ps_if (PW.pt (pw_or (pt_cmpR op_isN (pe_cal CW hr (pa_cons (pv 0) (pa_cons (pv 1) (pa_cons (pv 3) pa_nil)))) pe_non (nomark _)) (pw_or (pt_cmpR op_isN (pe_cal CW hr (pa_cons (pv 0) (pa_cons (pv 1) (pa_cons (pv 4) pa_nil)))) pe_non (nomark _)) (pw_or1 (pt_cmpR op_gt (pv 3) (pv 4) (nomark _)))))) (pss_one (ps_ret pe_bl)) pss_nil)
      (pss_cons (ps_if (pt_cmpR op_ne (pe_cal CB hr (pa_cons (pv 0) (pa_cons (pv 1) (pa_cons (pe_op op_sub (pv 3) pe_int) pa_nil)))) pe_int (nomark _)) (pss_one (ps_ret pe_bl)) pss_nil)
      (pss_one (ps_ret (pe_cmpR op_eq (pe_cal CB hr (pa_cons (pv 0) (pa_cons (pv 1) (pa_cons (pv 4) pa_nil)))) (pe_cal CC hr (pa_cons (pv 0) (pa_cons (pv 1) pa_nil))) (nomark _)))))))), ?_⟩
    obtain ⟨l, asc, mem, _, ll⟩ := stakes_ex (b := b) (n := n) (far := 10 ^ 30) (cs := ks.map (·.2)) (os := os) isf n1 (by decide) (fun c hc => isf.co c hc)
    have nd := asc_nodup asc
    have l4000 : l.length < 2 ^ 4000 := by
      have h1 : n * 10 ^ 30 ≤ 10 ^ 30 * 10 ^ 30 := Int.mul_le_mul_of_nonneg_right n2 (by decide)
      have h2 : (2 * (n * 10 ^ 30) + 1).toNat ≤ 2 ^ 210 := by
        have e1 : (10 : Int) ^ 30 * 10 ^ 30 = 1000000000000000000000000000000000000000000000000000000000000 := by decide
        have e2 : (2 : Nat) ^ 210 = 1645504557321206042154969182557350504982735865633579863348609024 := by decide +kernel
        rw [e1] at h1
        rw [e2]
        omega
      exact Nat.lt_of_le_of_lt (Nat.le_trans ll (Nat.mul_le_mul h2 h2)) (by rw [← Nat.pow_add]; exact Nat.pow_lt_pow_right (by decide) (by decide))
    have e60 : (10 : Nat) ^ 60 + 1 < 2 ^ 350 := by decide +kernel
    have rbd : ∀ {px row : Int}, (px, row) ∈ l → row.natAbs < 2 ^ 350 := fun {px row} h => by
      have := (bel_far isf n1 n2 ((mem px row).mp h)).2
      generalize (2 : Nat) ^ 350 = Z at *
      generalize (10 : Nat) ^ 60 = X at *
      omega
    refine ⟨.ref t, rfl, .int n, rfl, t, c, o, b, n, ks, os, l, rfl, fa, isf, n1, n2, asc, l4000, mem, fun H1 s1 e => ?_, fun H1 z p r s1 hz hp hr' => ?_⟩
    · refine ⟨_, rfl, rfl, _, rfl, iteT ?_⟩
      refine ⟨.ref t, rfl, .int n, rfl, t, c, o, b, n, ks, os, rfl, fa.same s1, isf, n1, n2, fun l2 H2 nd2 mem2 s2 => ?_⟩
      have : l2 = [] := by
        have := Cnt.same_len nd2 nd fun x => (mem2 x.1 x.2).trans (mem x.1 x.2).symm
        rw [e] at this
        exact List.length_eq_zero_iff.mp this
      subst this
      exact ⟨rfl, q H2 (s1.trans s2)⟩
    · have up := rows_up asc hp hr'
      have mp := List.mem_of_getElem? hp
      have mr := List.mem_of_getElem? hr'
      have pr := (up r mr).1
      have pb := rbd (px := p.1) (row := p.2) mp
      have rb := rbd (px := r.1) (row := r.2) mr
      refine ⟨_, rfl, rfl, _, rfl, iteF ?_⟩
      refine ⟨.ref z, rfl, z, _, rfl, SqT.of hz, rfl, .int p.2, [.int r.2], rfl, .int r.2, [], rfl, rfl, ?_⟩
      have no : ∀ {row px : Int} {v : V} {e : Option Hull.P} {H' : Hp}, (px, row) ∈ l → OpAt K H' v e → RowE (fun px => Geo.Bel b n (ks.map (·.2)) os px row) e → decide (v = V.non) = false := fun {row px v e H'} h at_ re => by
        cases e with
        | none => exact absurd ((mem px row).mp h) (re px)
        | some x =>
          obtain ⟨a, rfl, _⟩ := at_
          rfl
      have f1 := fa.same s1
      refine ⟨.ref t, rfl, .int n, rfl, _, rfl, t, c, o, b, n, p.2, ks, os, rfl, f1, isf, n1, n2, pb, fun H2 v e s2 at2 re2 => ⟨rfl, _, rfl, ?_⟩⟩
      have n1' := no (px := p.1) mp at2 re2
      rw [n1']
      refine iteF ?_
      have f2 := f1.same s2
      refine ⟨.ref t, rfl, .int n, rfl, _, rfl, t, c, o, b, n, r.2, ks, os, rfl, f2, isf, n1, n2, rb, fun H3 v3 e3 s3 at3 re3 => ⟨rfl, _, rfl, ?_⟩⟩
      have n3' := no (px := r.1) mr at3 re3
      rw [n3']
      refine iteF ?_
      have f3 := f2.same s3
      refine ⟨_, rfl, _, rfl, _, _, rfl, rfl, _, rfl, ite2 (fun e => ?_) (fun _ => ?_)⟩
      · have : p.2 > r.2 := of_decide_eq_true e
        omega
      have p3000 : (p.2 - 1).natAbs < 2 ^ 3000 := by
        have : (2 : Nat) ^ 350 + 1 < 2 ^ 3000 := by decide +kernel
        generalize (2 : Nat) ^ 350 = Z at *
        generalize (2 : Nat) ^ 3000 = X at *
        omega
      refine ⟨.ref t, rfl, .int n, rfl, _, rfl, _, _, rfl, rfl, t, c, o, b, n, p.2 - 1, ks, os, rfl, f3, isf, n1, n2, p3000, fun l4 H4 nd4 mem4 s4 => ?_⟩
      have e4 : l4 = [] := List.eq_nil_iff_forall_not_mem.mpr fun x hx => by
        obtain ⟨h1, h2⟩ := (mem4 x.1 x.2).mp hx
        have := (up x ((mem x.1 x.2).mpr h1)).1
        omega
      subst e4
      refine ⟨rfl, _, rfl, iteF ?_⟩
      have f4 := f3.same s4
      refine ⟨.ref t, rfl, .int n, rfl, _, rfl, t, c, o, b, n, r.2, ks, os, rfl, f4, isf, n1, n2, Nat.lt_trans rb (by decide +kernel), fun l5 H5 nd5 mem5 s5 => ?_⟩
      refine ⟨.ref t, rfl, .int n, rfl, t, c, o, b, n, ks, os, rfl, f4.same s5, isf, n1, n2, fun l6 H6 nd6 mem6 s6 => ?_⟩
      have e56 : l5.length = l6.length := Cnt.same_len nd5 nd6 fun x => by
        have h5 := mem5 x.1 x.2
        have h6 := mem6 x.1 x.2
        exact h5.trans ⟨fun h => h6.mpr h.1, fun h => ⟨h6.mp h, (up x ((mem x.1 x.2).mpr (h6.mp h))).2⟩⟩
      refine ⟨rfl, ?_⟩
      have z := q H6 (((((s1.trans s2).trans s3).trans s4).trans s5).trans s6)
      rw [show V.bl true = V.bl (decide (V.int (l5.length : Int) = V.int (l6.length : Int))) by rw [e56, decide_eq_true rfl]] at z
      exact z
end
end K12
set_option Elab.async false
set_option linter.all false
set_option maxRecDepth 100000
set_option maxHeartbeats 1000000
set_option exponentiation.threshold 20000
namespace K12
open PySem PySem.Spec PyProof.Rows L2 Fen
abbrev sLw : Stmt := topS 71
abbrev nLw : List Str := ["_law_script", "_law_at", "_law_pool_here", "_law_lap", "_law_plot_here", "_law_often", "_law_is_asked", "_law_level", "_law_told"]
theorem scLw : FnScope nLw ["_law_script"] (defScope sLw) := ⟨rfl, rfl, rfl, by decide +kernel, rfl, by decide +kernel, by decide +kernel⟩
theorem cor_little {x y : Int} (h1 : x.natAbs ≤ 1000) (h2 : y.natAbs ≤ 1000) : Cor (x, y) := by
  have e : (10 : Int) ^ 30 = 1000000000000000000000000000000 := by decide
  unfold Cor
  rw [e]
  dsimp only
  omega
def sqC : List Hull.P := [(0, 0), (3, 0), (3, 2), (0, 2)]
theorem isf_sq : IsF 1 sqC [2] := by
  have z := shape_hul (s := [(0, 0), (0, 2), (3, 0), (3, 2)]) (by decide) (by decide)
  have e : Fen.hul [((0 : Int), (0 : Int)), (0, 2), (3, 0), (3, 2)] = sqC := by decide +kernel
  rw [e] at z
  refine ⟨by decide, by decide, by decide, by decide, fun p hp => ?_, z.1, by decide, by decide⟩
  unfold sqC at hp
  simp only [List.mem_cons, List.not_mem_nil, or_false] at hp
  rcases hp with rfl | rfl | rfl | rfl <;> exact cor_little (by decide) (by decide)
theorem bel_sq {n px row : Int} : Geo.Bel 1 n sqC [2] px row ↔ 0 ≤ row ∧ row < 2 * n ∧ 0 ≤ px ∧ px ≤ 3 * n := by
  unfold Geo.Bel Geo.InF sqC
  constructor
  · rintro (⟨h, _⟩ | ⟨_, h⟩)
    · simp at h
    · have a := h 0 (0, 0) (3, 0) (by decide) rfl rfl
      have b := h 1 (3, 0) (3, 2) (by decide) rfl rfl
      have c := h 2 (3, 2) (0, 2) (by decide) rfl rfl
      have d := h 3 (0, 2) (0, 0) (by decide) rfl rfl
      unfold Geo.ff at a b c d
      simp only at a b c d
      have c2 := c.2 (by decide)
      omega
  · rintro ⟨h1, h2, h3, h4⟩
    refine .inr ⟨by decide, fun i a b hi ea eb => ?_⟩
    have : i = 0 ∨ i = 1 ∨ i = 2 ∨ i = 3 := by simp at hi; omega
    rcases this with rfl | rfl | rfl | rfl <;> cases ea <;> cases eb <;> unfold Geo.ff
    · exact ⟨by simp only; omega, fun m => absurd m (by decide)⟩
    · exact ⟨by simp only; omega, fun m => absurd m (by decide)⟩
    · exact ⟨by simp only; omega, fun m => by simp only; omega⟩
    · exact ⟨by simp only; omega, fun m => absurd m (by decide)⟩
def sq1 : List Cnt.S := [(0, 0), (1, 0), (2, 0), (3, 0), (0, 1), (1, 1), (2, 1), (3, 1)]
theorem mem_sq1 (px row : Int) : (px, row) ∈ sq1 ↔ Geo.Bel 1 1 sqC [2] px row := by
  rw [bel_sq]
  unfold sq1
  simp only [List.mem_cons, List.not_mem_nil, or_false, Prod.mk.injEq]
  omega
theorem asc_sq1 : sq1.Pairwise Yx := by unfold sq1 Yx; decide
/-! a written list of pairs and None -/
theorem dpa_len {K : PySem.W.Frag} {H : Hp} : ∀ {vs : List V} {ds : List PyData}, DpAll K H vs ds → vs.length = ds.length
  | _, _, .nil => rfl
  | _, _, .cons _ h => congrArg Nat.succ (dpa_len h)
theorem dpa_same {K : PySem.W.Frag} {H H' : Hp} (s : Same H H') : ∀ {vs : List V} {ds : List PyData}, DpAll K H vs ds → DpAll K H' vs ds
  | _, _, .nil => .nil
  | _, _, .cons h hs => .cons (Dp.same s h) (dpa_same s hs)
def tDpA (K : PySem.W.Frag) (ds : List PyData) : TA := fun σ H Q => ∀ H' vs, Same H H' → DpAll K H' vs ds → Q vs H'
section
variable {X : Cx} {K : PySem.W.Frag}
theorem pa_dnil : PA X [] (tDpA K []) := PA.of _ pa_nil fun σ H Q h => h H [] (Same.refl _) .nil
theorem pa_dtup {e1 e2 : Expr} {es : List Expr} {i j : Int} {ds : List PyData} {kk : Nat} {pos : Pos} (h1 : PE X e1 (tC (.int i))) (h2 : PE X e2 (tC (.int j))) (hr : PA X es (tDpA K ds))
    (n1 : starEach (e1 :: [e2]) X.env = (false, eval e1 X.env) :: starEach [e2] X.env := by rfl) (n2 : starEach (e2 :: []) X.env = (false, eval e2 X.env) :: starEach [] X.env := by rfl)
    (hs : starEach (.Tuple [e1, e2] kk pos :: es) X.env = (false, eval (.Tuple [e1, e2] kk pos) X.env) :: starEach es X.env := by rfl) : PA X (.Tuple [e1, e2] kk pos :: es) (tDpA K (ptD (i, j) :: ds)) := by
  refine PA.of _ (pa_cons (pe_tup (pa_cons h1 (pa_cons h2 pa_nil n2) n1)) hr hs) fun σ H Q h => ?_
  refine ⟨by show 2 ≤ sizeLine; decide, fun t nt => fun H' vs s D => ?_⟩
  exact h H' (.ref t :: vs) ((same_new nt).trans s) (.cons (dp_pt (p := (i, j)) (SqT.of (s _ _ upd_same))) D)
theorem pa_dnon {e : Expr} {es : List Expr} {ds : List PyData} (h1 : PE X e (tC .non)) (hr : PA X es (tDpA K ds)) (hs : starEach (e :: es) X.env = (false, eval e X.env) :: starEach es X.env := by rfl) : PA X (e :: es) (tDpA K (.none :: ds)) :=
  PA.of _ (pa_cons h1 hr hs) fun σ H Q h => fun H' vs s D => h H' (.non :: vs) s (.cons .non D)
end
theorem OpAt.put {K : PySem.W.Frag} {H : Hp} {v : V} {D : Addr} {l l' : List V} (hD : H D = some (.lst l)) : ∀ {o : Option Hull.P}, OpAt K H v o → OpAt K (upd H D (.lst l')) v o
  | none, h => h
  | some p, ⟨a, e, t⟩ => ⟨a, e, L2.SqT.put t hD SameX.put⟩
theorem OpAt.drew {K : PySem.W.Frag} {H H' : Hp} {v : V} (s : Same H H') {o : Option Hull.P} (h : OpAt K H v o) : OpAt K H' v o := h.same s
/-- whether the ends are asked: yes or no -/
def tAsk (K : PySem.W.Frag) : TE := fun σ H Q => ∃ (i j : Int) (t c o : Addr) (b : Int) (ks : Pts) (os : List Int), σ[1]? = some (some (.int i)) ∧ σ[3]? = some (some (.int j)) ∧ σ[4]? = some (some (.ref t)) ∧ FAt K H t c o b ks os ∧ ∀ k : Bool, Q (.bl k) H
section
variable {P : Program} {w : World} {K : PySem.W.Frag} {mg : Str → Option Value} {base : Heap}
def spLw (K : PySem.W.Frag) : Sp := fun vs H Q _ => ∃ (a : Addr) (ns : List Int), vs = [.ref a] ∧ SqL K H a (ns.map V.int) ∧ ns.length ≤ 63 ∧ ∀ H', Q (.bl true) H'
theorem ok_lw {f fP fL fD fR fE fS fSr : Addr} {fd fdP fdL fdD fdR fdE fdS fdSr : FuncData} {k : Nat} (F : Fun K "law" "law" sLw f fd) (ml : mg "len" = none) (mr : mg "range" = none) (mmin : mg "min" = none) (mmax : mg "max" = none) (mi : mg "int" = none)
    (CP : Cal P w K mg base (k + 1) "_law_pool" fP fdP ["_law_script", "_law_at"] (spPool K)) (CL : Cal P w K mg base (k + 1) "_law_plot" fL fdL ["_law_pool_here", "_law_far", "_law_most"] (spPlo K)) (CD : Cal P w K mg base (k + 1) "_law_draw" fD fdD ["_law_pool_here", "_law_span"] spDrw)
    (CR : CalG P w K mg base (k + 1) "_law_right" fR fdR ["_law_pool_here", "_law_plot_here", "_law_often"] (spRt K)) (CE : Cal P w K mg base (k + 1) "_law_ends_right" fE fdE ["_law_plot_here", "_law_often"] (spEr K))
    (CS : Cal P w K mg base (k + 1) "row_stakes" fS fdS ["fence", "size", "row"] (spRwO K)) (CSr : Cal P w K mg base (k + 1) "stake_rows" fSr fdSr ["fence", "size"] (spSrw K)) :
    FnG P w K mg base CX0 (k + 1 + 1) f fd ["_law_script"] (spLw K) := by
  refine F.okG scLw (fun vs H Q E h => ?_) (fun cdv A outer s H vs Q E hgd hr h => ?_)
  · obtain ⟨a, ns, rfl, _⟩ := h
    rfl
  · obtain ⟨a, ns, rfl, hS, hl, q⟩ := h
    refine ⟨_, pss_cons (ps_for PassesOwn.never rfl (pi_range1 (by rfl) mr (pa_cons (pe_callB (call_max2 rfl) (by rfl) mmax (by decide +kernel) (pa_cons pe_int (pa_cons (pe_callB (call_min2 rfl) (by rfl) mmin (by decide +kernel) (pa_cons pe_int (pa_cons (pe_callB call_len_seq (by rfl) ml PySem.boot_len (pa_cons (pv 0) pa_nil)) pa_nil))) pa_nil))) pa_nil)) (pg_name (i := 1) scLw.nd rfl (.inl rfl))
        (pss_cons (ps_set (i := 2) scLw.nd rfl (.inl rfl) (pe_cal CP hr (pa_cons (pv 0) (pa_cons (pv 1) pa_nil))))
        (pss_one (ps_for PassesOwn.never rfl (pi_range1 (by rfl) mr (pa_cons pe_int pa_nil)) (pg_name (i := 3) scLw.nd rfl (.inl rfl))
          (pss_cons (ps_set (i := 4) scLw.nd rfl (.inl rfl) (pe_cal CL hr (pa_cons (pv 2) (pa_cons (pe_ix ix_list (pe_lst (pa_cons pe_int (pa_cons pe_int (pa_cons (pe_op op_pow pe_int pe_int) pa_nil)))) (pv 3) (fun _ _ => rfl)) (pa_cons (pe_ix ix_list (pe_lst (pa_cons pe_int (pa_cons pe_int (pa_cons pe_int pa_nil)))) (pv 3) (fun _ _ => rfl)) pa_nil)))))
          (pss_cons (ps_set (i := 5) scLw.nd rfl (.inl rfl) (pe_ix ix_list (pe_lst (pa_cons (pe_op op_mulW (pe_ix ix_tup (pv 4) pe_int (fun _ _ => rfl)) (pe_op op_add pe_int (pe_cal CD hr (pa_cons (pv 2) (pa_cons pe_int pa_nil))))) (pa_cons (pe_op op_add pe_int (pe_cal CD hr (pa_cons (pv 2) (pa_cons (pe_op op_pow pe_int pe_int) pa_nil)))) (pa_cons (pe_op op_add pe_int (pe_cal CD hr (pa_cons (pv 2) (pa_cons pe_int pa_nil)))) pa_nil)))) (pv 3) (fun _ _ => rfl)))
          (pss_cons (ps_if (pt_not (pt_val (pe_calG CR hgd hr (pa_cons (pv 2) (pa_cons (pv 4) (pa_cons (pv 5) pa_nil)))))) (pss_one (ps_ret pe_bl)) pss_nil)
          (pss_cons (ps_set (i := 6) scLw.nd rfl (.inl rfl) (PE.of (tAsk K) (pe_or (pe_cmpR op_eq (pv 3) (pe_op op_mod (pe_callTy call_int1 (by rfl) mi (by decide +kernel) (pa_cons (pv 1) pa_nil)) pe_int) (nomark _)) (pe_or1 (pe_and (pe_cmpR op_eq (pv 1) pe_int (nomark _)) (pe_and (pe_cmpR op_eq (pv 3) pe_int (nomark _)) (pe_and1 (pe_cmpR op_lt (pe_callB call_len_seq (by rfl) ml PySem.boot_len (pa_cons (pe_ix ix_tup (pv 4) pe_int (fun _ _ => rfl)) pa_nil)) pe_int (nomark _))))))) ?ta))
          (pss_one (ps_if (PW.pt (pw_and (pt_val (pv 6)) (pw_and1 (pt_not (pt_val (pe_cal CE hr (pa_cons (pv 4) (pa_cons (pv 5) pa_nil)))))))) (pss_one (ps_ret pe_bl)) pss_nil))))))))))
      (pss_cons (ps_set (i := 7) scLw.nd rfl (.inr rfl) (pe_fenS (K := K) (os := [2]) pe_int (pe_ptl (pa_pt pe_int pe_int (pa_pt pe_int pe_int (pa_pt pe_int pe_int (pa_pt pe_int pe_int pa_ptnil)))) (by decide)) (pa_cons pe_int pa_nil) (fun _ _ _ q => q) (by decide)))
      (pss_cons (ps_set (i := 8) scLw.nd rfl (.inl rfl) (pe_op op_cat (pe_lc (own := [("_law_at", 1)]) (g := gName 1) (tt := tYes) rfl scLw.nd (pi_tup (pe_tup (pa_cons pe_int (pa_cons pe_int (pa_cons pe_int pa_nil))))) (blkOk_by (N := nLw) (sc := defScope sLw) (by decide +kernel)) (fun _ _ _ _ _ => pg_name (i := 1) scLw.nd rfl (Or.inl rfl)) (fun _ _ _ _ _ => pts_nil)
          (fun _ _ _ _ _ => pe_cal CS hr (pa_cons (pv 7) (pa_cons pe_int (pa_cons (pv 1) pa_nil))))) (pe_lst (pa_cons (pe_cal CSr hr (pa_cons (pv 7) (pa_cons pe_int pa_nil))) (pa_cons (pe_cal CS hr (pa_cons (pv 7) (pa_cons (pe_op op_pow pe_int pe_int) (pa_cons pe_int pa_nil)))) pa_nil)))))
      (pss_one (ps_ret (pe_cmpR (op_eqD (hu_of64 hr)) (pv 8) (pe_lst (pa_dtup (K := K) pe_int pe_int (pa_dtup pe_int pe_int (pa_dnon pe_non (pa_dtup pe_int pe_int (pa_dtup (j := 3 * (10 : Int) ^ (30 : Int).toNat) pe_int (PE.of _ (pe_op op_mulW pe_int (pe_op op_pow pe_int pe_int)) ?tp) pa_dnil)))))) (nomark _)))))), ?_⟩
    case tp =>
      rintro σ H Q q
      exact ⟨10, 30, rfl, rfl, ⟨by decide, by decide, by decide⟩, _, _, rfl, rfl, wide_mul (a := 10) (b := 120) (by decide) (by decide +kernel) (by decide) (by decide) (by decide), q⟩
    case ta =>
      rintro σ H Q ⟨i, j, t, c, o, b, ks, os, e1, e3, e4, fa, q⟩
      refine ⟨_, e3, _, e1, .inl ⟨_, rfl, _, _, rfl, rfl, (by decide : (0 : Int) < 2), rfl, _, rfl, ite2 (fun _ => q _) (fun _ => ?_)⟩⟩
      refine ⟨_, e1, rfl, _, rfl, ite2 (fun _ => ?_) (fun _ => q _)⟩
      refine ⟨_, e3, rfl, _, rfl, ite2 (fun _ => ?_) (fun _ => q _)⟩
      exact ⟨_, e4, t, _, 1, .ref c, rfl, rfl, fa.tup, atI_nat (j := 1) rfl, c, _, rfl, .inl fa.cor, _, _, rfl, rfl, q _⟩
    refine ⟨.ref a, rfl, a, _, rfl, .inl hS, _, _, rfl, _, _, rfl, ?_⟩
    obtain ⟨mm, em, mm4⟩ : ∃ mm : Nat, (if (if (((ns.map V.int).length : Nat) : Int) < 4 then (((ns.map V.int).length : Nat) : Int) else 4) > 1 then (if (((ns.map V.int).length : Nat) : Int) < 4 then (((ns.map V.int).length : Nat) : Int) else 4) else 1) = (mm : Int) ∧ mm ≤ 4 := by
      refine ⟨(if (if (((ns.map V.int).length : Nat) : Int) < 4 then (((ns.map V.int).length : Nat) : Int) else 4) > 1 then (if (((ns.map V.int).length : Nat) : Int) < 4 then (((ns.map V.int).length : Nat) : Int) else 4) else 1).toNat, ?_, ?_⟩
      · split <;> split at * <;> omega
      · split <;> split at * <;> omega
    rw [em]
    refine ⟨mm, rfl, by omega, by omega, ?_⟩
    have e30 : (1000000000000000000000000000000 : Int) = 10 ^ 30 := by decide
    refine for_range (lo := 0) (fun i σ H' => ∃ y1 y2 y3 y4 y5 y6, σ = [some (.ref a), y1, y2, y3, y4, y5, y6, none, none] ∧ Same H H') ⟨_, _, _, _, _, _, rfl, Same.refl _⟩ ?_ ?_
    · rintro i σ H1 hi ⟨y1, y2, y3, y4, y5, y6, rfl, s1⟩
      have i4 : i < 4 := by rw [Int.toNat_natCast] at hi; omega
      refine ⟨.ref a, rfl, _, rfl, a, ns, i, (by rw [Int.zero_add]; rfl), s1.seq hS, by omega, fun H2 p s2 np hb => ?_⟩
      refine ⟨3, rfl, by decide, by decide, ?_⟩
      have pH : H p = none := s1.free np
      refine for_range (lo := 0) (fun j σ H' => ∃ y3 y4 y5 y6, σ = [some (.ref a), some (.int (0 + (i : Nat))), some (.ref p), y3, y4, y5, y6, none, none] ∧ Drew p H2 H' (200 * j)) ⟨_, _, _, _, rfl, Drew.of hb (Same.refl _)⟩ ?_ ?_
      · rintro j σ H3 hj ⟨y3, y4, y5, y6, rfl, d3⟩
        have j3 : j < 3 := hj
        obtain ⟨far, hfar, far1, far2⟩ : ∃ far : Int, atI [V.int 3, .int 30, .int ((10 : Int) ^ (30 : Int).toNat)] (0 + (j : Nat)) = some (.int far) ∧ 1 ≤ far ∧ far ≤ 10 ^ 30 := by
          have : j = 0 ∨ j = 1 ∨ j = 2 := by omega
          rcases this with rfl | rfl | rfl
          · exact ⟨3, rfl, by decide, by decide⟩
          · exact ⟨30, rfl, by decide, by decide⟩
          · exact ⟨_, rfl, by decide, by decide⟩
        obtain ⟨most, hmost, most1, most2⟩ : ∃ most : Int, atI [V.int 6, .int 30, .int 30] (0 + (j : Nat)) = some (.int most) ∧ 1 ≤ most ∧ most ≤ 30 := by
          have : j = 0 ∨ j = 1 ∨ j = 2 := by omega
          rcases this with rfl | rfl | rfl
          · exact ⟨6, rfl, by decide, by decide⟩
          · exact ⟨30, rfl, by decide, by decide⟩
          · exact ⟨30, rfl, by decide, by decide⟩
        refine ⟨.ref p, rfl, 10, 30, rfl, rfl, ⟨by decide, by decide, by decide⟩, by show 3 ≤ sizeLine; decide, fun l1 nl1 => ?_⟩
        have c1 := same_new (o := .lst [V.int 3, .int 30, .int ((10 : Int) ^ (30 : Int).toNat)]) nl1
        have d4 := d3.new c1
        refine ⟨_, rfl, l1, _, _, .int far, rfl, rfl, SqL.of upd_same, hfar, by show 3 ≤ sizeLine; decide, fun l2 nl2 => ?_⟩
        have d5 := d4.new (same_new (o := .lst [V.int 6, .int 30, .int 30]) nl2)
        refine ⟨_, rfl, l2, _, _, .int most, rfl, rfl, SqL.of upd_same, hmost, p, far, most, _, rfl, d5.bag, by omega, far1, far2, most1, most2, fun H6 t c o b ks os d6 nt cp op fp isf cor => ?_⟩
        have b1 := isf.b1
        have b2 := isf.b2
        have dA := d5.then d6
        have fa6 := fp.fat
        refine ⟨.ref t, rfl, t, _, 0, .int b, rfl, rfl, fa6.tup, atI_nat (j := 0) rfl, .ref p, rfl, p, 9, _, rfl, by decide, by decide +kernel, dA.bag, by omega, fun r1 H7 a10 a11 d7 o7 => ⟨_, _, rfl, rfl, _, _, rfl, rfl, wide_mul (a := 100) (b := 100) (Nat.lt_of_le_of_lt (show b.natAbs ≤ 30 by omega) (by decide)) (Nat.lt_of_le_of_lt (show (1 + r1).natAbs ≤ 30 by omega) (by decide)) (by decide) (by decide) (by decide), ?_⟩⟩
        have dB := dA.then d7
        have fa7 := FAt.drew fa6 dA.bag d7 cp op
        refine ⟨.ref p, rfl, 10, 30, rfl, rfl, ⟨by decide, by decide, by decide⟩, p, (10 : Int) ^ (30 : Int).toNat, _, rfl, by decide, by decide +kernel, dB.bag, by omega, fun r2 H8 a20 a21 d8 o8 => ⟨_, _, rfl, rfl, ?_⟩⟩
        have dC := dB.then d8
        have fa8 := FAt.drew fa7 dB.bag d8 cp op
        refine ⟨.ref p, rfl, p, 60, _, rfl, by decide, by decide +kernel, dC.bag, by omega, fun r3 H9 a30 a31 d9 o9 => ⟨_, _, rfl, rfl, by show 3 ≤ sizeLine; decide, fun l4 nl4 => ?_⟩⟩
        have dD := dC.then d9
        have fa9 := FAt.drew fa8 dC.bag d9 cp op
        have c4 := same_new (o := .lst [V.int (b * (1 + r1)), .int (1 + r2), .int (1 + r3)]) nl4
        have g4 : (upd H9 l4 (.lst [V.int (b * (1 + r1)), .int (1 + r2), .int (1 + r3)])) l4 = some (.lst [V.int (b * (1 + r1)), .int (1 + r2), .int (1 + r3)]) := upd_same
        generalize upd H9 l4 (.lst [V.int (b * (1 + r1)), .int (1 + r2), .int (1 + r3)]) = H10 at c4 g4 ⊢
        have dE := dD.new c4
        have fa10 := fa9.same c4
        obtain ⟨n, hn, nn1, nn2⟩ : ∃ n : Int, atI [V.int (b * (1 + r1)), .int (1 + r2), .int (1 + r3)] (0 + (j : Nat)) = some (.int n) ∧ 1 ≤ n ∧ n ≤ 10 ^ 30 := by
          have : j = 0 ∨ j = 1 ∨ j = 2 := by omega
          rcases this with rfl | rfl | rfl
          · have h1 : 1 * 1 ≤ b * (1 + r1) := Int.mul_le_mul b1 (by omega) (by decide) (by omega)
            have h2 : b * (1 + r1) ≤ 30 * 10 := Int.mul_le_mul b2 (by omega) (by omega) (by decide)
            exact ⟨_, rfl, by omega, by rw [← e30]; omega⟩
          · have : r2 < 1000000000000000000000000000000 := a21
            exact ⟨_, rfl, by omega, by rw [← e30]; omega⟩
          · exact ⟨_, rfl, by omega, by rw [← e30]; omega⟩
        refine ⟨_, rfl, l4, _, _, .int n, rfl, rfl, SqL.of g4, hn, ?_⟩
        refine ⟨.ref p, rfl, .ref t, rfl, .int n, rfl, p, t, c, o, b, n, ks, os, _, rfl, dE.bag, by omega, fa10, cp, op, isf, nn1, nn2, fun H11 d11 => ⟨true, rfl, iteF ?_⟩⟩
        have dF := dE.then d11
        have fa11 := FAt.drew fa10 dE.bag d11 cp op
        refine ⟨_, _, t, c, o, b, ks, os, rfl, rfl, rfl, fa11, fun ask => ?_⟩
        refine ⟨_, rfl, ask, rfl, ?_⟩
        have fin : ∀ H', Same H11 H' → ∃ y3 y4 y5 y6, [some (V.ref a), some (.int (0 + (i : Nat))), some (.ref p), some (.int (0 + (j : Nat))), some (.ref t), some (.int n), some (.bl ask), none, none] = [some (V.ref a), some (.int (0 + (i : Nat))), some (.ref p), y3, y4, y5, y6, none, none] ∧ Drew p H2 H' (200 * (j + 1)) := fun H' s' => ⟨_, _, _, _, rfl, dF.new s' |> fun d => ⟨d.x, d.bag.more (by omega)⟩⟩
        cases ask with
        | true =>
          refine iteT ⟨.ref t, rfl, .int n, rfl, t, c, o, b, n, ks, os, rfl, fa11, isf, nn1, nn2, fun H12 s12 => ⟨true, rfl, iteF (fin H12 s12)⟩⟩
        | false => exact iteF (iteF (fin H11 (Same.refl _)))
      · rintro σ H3 ⟨y3, y4, y5, y6, rfl, d3⟩
        refine ⟨_, _, _, _, _, _, rfl, fun x u e => ?_⟩
        have xp : x ≠ p := fun z => by rw [z, pH] at e; cases e
        exact d3.x x u xp (s2 x u (s1 x u e))
    rintro σ H1 ⟨y1, y2, y3, y4, y5, y6, rfl, s1⟩
    refine fun H2 tA s2 TA => ?_
    obtain ⟨cA, oA, kA, fA, eA⟩ := TA
    have iA : IsF 1 (kA.map (·.2)) [2] := by rw [eA]; exact isf_sq
    refine ⟨by show 3 ≤ sizeLine; decide, fun tu ntu => ?_⟩
    have s6 := same_new (o := .tup [.int 0, .int 1, .int 2]) ntu
    have gu : (upd H2 tu (.tup [.int 0, .int 1, .int 2])) tu = some (.tup [.int 0, .int 1, .int 2]) := upd_same
    generalize upd H2 tu (.tup [.int 0, .int 1, .int 2]) = H6 at s6 gu ⊢
    have f6 := fA.same s6
    refine ⟨tu, rfl, ⟨_, SqT.of gu⟩, fun D nD => ?_⟩
    have three : ∀ {u : Nat} {x : V}, ([V.int 0, .int 1, .int 2] : List V)[u]? = some x → ∃ (r : Int) (e : Option Hull.P), x = .int r ∧ u < 3 ∧ r.natAbs < 3 ∧ ([some (0, 3), some (0, 3), none] : List (Option Hull.P))[u]? = some e ∧ RowE (fun px => Geo.Bel 1 1 (kA.map (·.2)) [2] px r) e := fun {u x} hx => by
      have hu := (List.getElem?_eq_some_iff.mp hx).1
      have hu3 : u < 3 := hu
      have : u = 0 ∨ u = 1 ∨ u = 2 := by omega
      rcases this with rfl | rfl | rfl <;> cases hx
      · exact ⟨0, some (0, 3), rfl, by decide, by decide, rfl, by decide, fun x => by show Geo.Bel _ _ _ _ _ _ ↔ _; rw [eA]; show Geo.Bel 1 1 sqC [2] _ _ ↔ _; rw [bel_sq]; show _ ↔ (0 : Int) ≤ x ∧ x ≤ 3; omega⟩
      · exact ⟨1, some (0, 3), rfl, by decide, by decide, rfl, by decide, fun x => by show Geo.Bel _ _ _ _ _ _ ↔ _; rw [eA]; show Geo.Bel 1 1 sqC [2] _ _ ↔ _; rw [bel_sq]; show _ ↔ (0 : Int) ≤ x ∧ x ≤ 3; omega⟩
      · exact ⟨2, none, rfl, by decide, by decide, rfl, fun x => by show ¬ Geo.Bel _ _ _ _ _ _; rw [eA]; show ¬ Geo.Bel 1 1 sqC [2] _ _; rw [bel_sq]; omega⟩
    refine lc_it (walk_tup (K := K) (a := tu) (xs := [.int 0, .int 1, .int 2])) (fun j H' => Same H6 H' ∧ ∃ vs : List V, H' D = some (.lst vs) ∧ vs.length = j ∧ ∀ i v e, vs[i]? = some v → ([some (0, 3), some (0, 3), none] : List (Option Hull.P))[i]? = some e → OpAt K H' v e) ⟨same_new nD, [], upd_same, rfl, fun i v e h => absurd (List.getElem?_nil.symm.trans h) (fun z => nomatch z)⟩ (fun j H' _ z => SqT.of (z.1 _ _ gu)) ?_ ?_
    · rintro j v H7 H8 hj ⟨s7, vs, hD, lv, ov⟩ ⟨rfl, hv⟩
      obtain ⟨r, e, rfl, j3, rb, he, re⟩ := three hv
      have f8 := f6.same s7
      refine ⟨rfl, yesT ?_⟩
      refine ⟨.ref tA, rfl, _, rfl, tA, cA, oA, 1, 1, r, kA, [2], rfl, f8.fat, iA, by decide, by decide, Nat.lt_trans rb (by decide), fun H9 x e' s9 at9 re9 => ?_⟩
      obtain rfl : e' = e := re9.one re
      have hD9 := s9 _ _ hD
      refine ⟨_, hD9, ?_, fun a' u e => ?_, vs ++ [x], upd_same, by rw [List.length_append, lv]; rfl, fun i v2 e2 h1 h2 => ?_⟩
      · rw [lv]
        exact Nat.lt_of_lt_of_le (show j < 4 by omega) (by decide)
      · rw [upd_ne (fun w => by rw [w, nD] at e; cases e)]
        exact s9 _ _ (s7 a' u e)
      · by_cases il : i < vs.length
        · rw [List.getElem?_append_left il] at h1
          exact ((ov i v2 e2 h1 h2).same s9).put hD9
        · have li := (List.getElem?_eq_some_iff.mp h1).1
          rw [List.length_append, List.length_singleton] at li
          have ei : i = j := by omega
          subst ei
          rw [List.getElem?_append_right (by omega), lv, Nat.sub_self] at h1
          have ex : v2 = x := (Option.some.inj h1).symm
          have ee : e2 = e' := Option.some.inj (h2.symm.trans he)
          rw [ex, ee]
          exact at9.put hD9
    rintro H7 ⟨s7, vs, hD, lv, ov⟩
    obtain ⟨v0, v1, v2, rfl⟩ : ∃ a b c, vs = [a, b, c] := by
      have lv3 : vs.length = 3 := lv
      rcases vs with _ | ⟨a, _ | ⟨b, _ | ⟨c, _ | ⟨d, r⟩⟩⟩⟩
      · simp at lv3
      · simp at lv3
      · simp at lv3
      · exact ⟨a, b, c, rfl⟩
      · simp at lv3
    have o0 : OpAt K H7 v0 (some (0, 3)) := ov 0 v0 _ rfl rfl
    have o1 : OpAt K H7 v1 (some (0, 3)) := ov 1 v1 _ rfl rfl
    have o2 : OpAt K H7 v2 none := ov 2 v2 _ rfl rfl
    have f7 := f6.same s7
    have mS : ∀ px row, (px, row) ∈ sq1 ↔ Geo.Bel 1 1 (kA.map (·.2)) [2] px row := fun px row => by rw [eA]; exact mem_sq1 px row
    refine ⟨.ref tA, rfl, tA, cA, oA, 1, 1, kA, [2], sq1, rfl, f7.fat, iA, by decide, by decide, asc_sq1, by decide, mS, fun H8 s8 e => absurd e (by decide), fun H8 z4 p4 q4 s8 hz4 hp4 hq4 => ?_⟩
    obtain rfl : p4 = (0, 0) := (Option.some.inj hp4).symm
    obtain rfl : q4 = (3, 1) := (Option.some.inj hq4).symm
    have f8 := f7.same s8
    have re5 : RowE (fun px => Geo.Bel 1 (10 ^ (30 : Int).toNat) (kA.map (·.2)) [2] px 5) (some (0, 3 * 10 ^ (30 : Int).toNat)) := by
      refine ⟨by decide, fun x => ?_⟩
      show Geo.Bel _ _ _ _ _ _ ↔ _
      rw [eA]
      show Geo.Bel 1 (10 ^ (30 : Int).toNat) sqC [2] _ _ ↔ _
      rw [bel_sq]
      show _ ↔ (0 : Int) ≤ x ∧ x ≤ 3 * 10 ^ (30 : Int).toNat
      have : (10 : Int) ^ (30 : Int).toNat = 1000000000000000000000000000000 := by decide
      omega
    refine ⟨.ref tA, rfl, 10, 30, rfl, rfl, ⟨by decide, by decide, by decide⟩, tA, cA, oA, 1, (10 : Int) ^ (30 : Int).toNat, 5, kA, [2], rfl, f8.fat, iA, by decide, by decide, by decide, fun H9 v5 e5 s9 at5 ee5 => ?_⟩
    obtain rfl := ee5.one re5
    refine ⟨by show 2 ≤ sizeLine; decide, fun M nM => ?_⟩
    have kM := same_new (o := .lst [.ref z4, v5]) nM
    have gM : (upd H9 M (.lst [.ref z4, v5])) M = some (.lst [.ref z4, v5]) := upd_same
    have sM := (s8.trans s9).trans kM
    generalize upd H9 M (.lst [.ref z4, v5]) = HM at kM gM sM ⊢
    refine ⟨D, M, _, _, rfl, rfl, sM _ _ hD, gM, by show 5 ≤ sizeLine; decide, fun O nO => ?_⟩
    have kO := same_new (o := .lst ([v0, v1, v2] ++ [.ref z4, v5])) nO
    have gO : (upd HM O (.lst ([v0, v1, v2] ++ [.ref z4, v5]))) O = some (.lst [v0, v1, v2, .ref z4, v5]) := upd_same
    generalize upd HM O (.lst ([v0, v1, v2] ++ [.ref z4, v5])) = HO at kO gO ⊢
    have sO := sM.trans kO
    have dz4 : OpAt K HO (.ref z4) (some (0, 1)) := ⟨z4, rfl, SqT.of (((s9.trans kM).trans kO) _ _ hz4)⟩
    have d5 := at5.same (kM.trans kO)
    refine ⟨.ref O, rfl, fun HW ws sW dW => ?_⟩
    refine ⟨by rw [dpa_len dW]; show 5 ≤ sizeLine; decide, fun L nL => ?_⟩
    have kL := same_new (o := .lst ws) nL
    have all5 : DpAll K (upd HW L (.lst ws)) [v0, v1, v2, .ref z4, v5] [ptD (0, 3), ptD (0, 3), .none, ptD (0, 1), ptD (0, 3 * 10 ^ (30 : Int).toNat)] :=
      .cons (((o0.same sO).same sW).same kL).dp (.cons (((o1.same sO).same sW).same kL).dp (.cons (((o2.same sO).same sW).same kL).dp (.cons ((dz4.same sW).same kL).dp (.cons ((d5.same sW).same kL).dp .nil))))
    have shp : SeqAt.shaped (.list [ptD (0, 3), ptD (0, 3), .none, ptD (0, 1), ptD (0, 3 * 10 ^ (30 : Int).toNat)]) = true := by
      unfold SeqAt.shaped
      simp [ptD, PyData.canLay0, PyData.canLayAll0, PyData.depth, PyData.depthAll]
    refine ⟨_, _, .lst (SqL.of (kL _ _ (sW _ _ gO))) all5, .lst (SqL.of upd_same) (dpa_same kL dW), shp, shp, ?_⟩
    rw [eqv_self shp]
    exact q _
end
end K12
set_option Elab.async false
set_option linter.all false
set_option maxRecDepth 100000
set_option maxHeartbeats 1000000
set_option exponentiation.threshold 20000
namespace K12
open PySem PySem.Spec PyProof.Rows L2 Fen
theorem top_mk {P : Program} {w : World} {K : PySem.W.Frag} {h : Heap} {mg : Str → Option Value} {fa  : Addr} {t1 t2 t3 : Tok} (X : K.In h) (G : h.Ns mainGlobals mg) (hfa : mg "law" = some (.ref fa))
    (v1 : PySem.W.nsIn K mainGlobals "LIMIT" = some (some (.int 1000000000000000000000000000000 t1)))
    (v2 : PySem.W.nsIn K mainGlobals "GREATEST_BOTTOM" = some (some (.int 30 t2)))
    (v3 : PySem.W.nsIn K mainGlobals "MOST_CORNERS" = some (some (.int 10 t3)))
    (v4 : PySem.W.nsIn K mainGlobals "gcd" = some (some (.builtin "math.gcd")))
    (b0 : PySem.W.nsIn K mainGlobals "isinstance" = some none)
    (b1 : PySem.W.nsIn K mainGlobals "int" = some none)
    (b2 : PySem.W.nsIn K mainGlobals "bool" = some none)
    (b3 : PySem.W.nsIn K mainGlobals "tuple" = some none)
    (b4 : PySem.W.nsIn K mainGlobals "list" = some none)
    (b5 : PySem.W.nsIn K mainGlobals "len" = some none)
    (b6 : PySem.W.nsIn K mainGlobals "enumerate" = some none)
    (b7 : PySem.W.nsIn K mainGlobals "min" = some none)
    (b8 : PySem.W.nsIn K mainGlobals "max" = some none)
    (b9 : PySem.W.nsIn K mainGlobals "zip" = some none)
    (b10 : PySem.W.nsIn K mainGlobals "all" = some none)
    (b11 : PySem.W.nsIn K mainGlobals "range" = some none)
    (b12 : PySem.W.nsIn K mainGlobals "abs" = some none)
    (b13 : PySem.W.nsIn K mainGlobals "sum" = some none)
    (b14 : PySem.W.nsIn K mainGlobals "repr" = some none)
    (b15 : PySem.W.nsIn K mainGlobals "sorted" = some none)
    (b16 : PySem.W.nsIn K mainGlobals "set" = some none)
    (b17 : PySem.W.nsIn K mainGlobals "divmod" = some none)
    {fTurnP : Addr} {ocTurnP : Value} {odTurnP anTurnP : Option Addr} {slTurnP : Array (Option Value)} {kVTurnP dcTurnP pmTurnP cdTurnP ctTurnP : Value} (eTurnP : PySem.W.nsIn K mainGlobals "turn" = some (some (.ref fTurnP))) (lTurnP : K.lookup fTurnP = some ⟨ocTurnP, odTurnP, .func (PySem.W.fnOf "turn" "turn" (defArgs sTurnP) (defBody sTurnP) (defScope sTurnP) .none kVTurnP dcTurnP pmTurnP anTurnP cdTurnP ctTurnP), slTurnP⟩) (jTurnP : PySem.W.codeIn K cdTurnP "turn" = true) (kTurnP : PySem.W.keepIn K (.ref fTurnP) = true)
    {fNx : Addr} {ocNx : Value} {odNx anNx : Option Addr} {slNx : Array (Option Value)} {kVNx dcNx pmNx cdNx ctNx : Value} (eNx : PySem.W.nsIn K mainGlobals "next_corner" = some (some (.ref fNx))) (lNx : K.lookup fNx = some ⟨ocNx, odNx, .func (PySem.W.fnOf "next_corner" "next_corner" (defArgs sNx) (defBody sNx) (defScope sNx) .none kVNx dcNx pmNx anNx cdNx ctNx), slNx⟩) (jNx : PySem.W.codeIn K cdNx "next_corner" = true) (kNx : PySem.W.keepIn K (.ref fNx) = true)
    {fLs : Addr} {ocLs : Value} {odLs anLs : Option Addr} {slLs : Array (Option Value)} {kVLs dcLs pmLs cdLs ctLs : Value} (eLs : PySem.W.nsIn K mainGlobals "is_left_of_side" = some (some (.ref fLs))) (lLs : K.lookup fLs = some ⟨ocLs, odLs, .func (PySem.W.fnOf "is_left_of_side" "is_left_of_side" (defArgs sLs) (defBody sLs) (defScope sLs) .none kVLs dcLs pmLs anLs cdLs ctLs), slLs⟩) (jLs : PySem.W.codeIn K cdLs "is_left_of_side" = true) (kLs : PySem.W.keepIn K (.ref fLs) = true)
    {fOut : Addr} {ocOut : Value} {odOut anOut : Option Addr} {slOut : Array (Option Value)} {kVOut dcOut pmOut cdOut ctOut : Value} (eOut : PySem.W.nsIn K mainGlobals "is_outline" = some (some (.ref fOut))) (lOut : K.lookup fOut = some ⟨ocOut, odOut, .func (PySem.W.fnOf "is_outline" "is_outline" (defArgs sOut) (defBody sOut) (defScope sOut) .none kVOut dcOut pmOut anOut cdOut ctOut), slOut⟩) (jOut : PySem.W.codeIn K cdOut "is_outline" = true) (kOut : PySem.W.keepIn K (.ref fOut) = true)
    {fInt : Addr} {ocInt : Value} {odInt anInt : Option Addr} {slInt : Array (Option Value)} {kVInt dcInt pmInt cdInt ctInt : Value} (eInt : PySem.W.nsIn K mainGlobals "is_integer" = some (some (.ref fInt))) (lInt : K.lookup fInt = some ⟨ocInt, odInt, .func (PySem.W.fnOf "is_integer" "is_integer" (defArgs sInt) (defBody sInt) (defScope sInt) .none kVInt dcInt pmInt anInt cdInt ctInt), slInt⟩) (jInt : PySem.W.codeIn K cdInt "is_integer" = true) (kInt : PySem.W.keepIn K (.ref fInt) = true)
    {fBet : Addr} {ocBet : Value} {odBet anBet : Option Addr} {slBet : Array (Option Value)} {kVBet dcBet pmBet cdBet ctBet : Value} (eBet : PySem.W.nsIn K mainGlobals "is_between" = some (some (.ref fBet))) (lBet : K.lookup fBet = some ⟨ocBet, odBet, .func (PySem.W.fnOf "is_between" "is_between" (defArgs sBet) (defBody sBet) (defScope sBet) .none kVBet dcBet pmBet anBet cdBet ctBet), slBet⟩) (jBet : PySem.W.codeIn K cdBet "is_between" = true) (kBet : PySem.W.keepIn K (.ref fBet) = true)
    {fIsP : Addr} {ocIsP : Value} {odIsP anIsP : Option Addr} {slIsP : Array (Option Value)} {kVIsP dcIsP pmIsP cdIsP ctIsP : Value} (eIsP : PySem.W.nsIn K mainGlobals "is_point" = some (some (.ref fIsP))) (lIsP : K.lookup fIsP = some ⟨ocIsP, odIsP, .func (PySem.W.fnOf "is_point" "is_point" (defArgs sIsP) (defBody sIsP) (defScope sIsP) .none kVIsP dcIsP pmIsP anIsP cdIsP ctIsP), slIsP⟩) (jIsP : PySem.W.codeIn K cdIsP "is_point" = true) (kIsP : PySem.W.keepIn K (.ref fIsP) = true)
    {fIsC : Addr} {ocIsC : Value} {odIsC anIsC : Option Addr} {slIsC : Array (Option Value)} {kVIsC dcIsC pmIsC cdIsC ctIsC : Value} (eIsC : PySem.W.nsIn K mainGlobals "is_corner" = some (some (.ref fIsC))) (lIsC : K.lookup fIsC = some ⟨ocIsC, odIsC, .func (PySem.W.fnOf "is_corner" "is_corner" (defArgs sIsC) (defBody sIsC) (defScope sIsC) .none kVIsC dcIsC pmIsC anIsC cdIsC ctIsC), slIsC⟩) (jIsC : PySem.W.codeIn K cdIsC "is_corner" = true) (kIsC : PySem.W.keepIn K (.ref fIsC) = true)
    {fIsB : Addr} {ocIsB : Value} {odIsB anIsB : Option Addr} {slIsB : Array (Option Value)} {kVIsB dcIsB pmIsB cdIsB ctIsB : Value} (eIsB : PySem.W.nsIn K mainGlobals "is_bottom" = some (some (.ref fIsB))) (lIsB : K.lookup fIsB = some ⟨ocIsB, odIsB, .func (PySem.W.fnOf "is_bottom" "is_bottom" (defArgs sIsB) (defBody sIsB) (defScope sIsB) .none kVIsB dcIsB pmIsB anIsB cdIsB ctIsB), slIsB⟩) (jIsB : PySem.W.codeIn K cdIsB "is_bottom" = true) (kIsB : PySem.W.keepIn K (.ref fIsB) = true)
    {fCs : Addr} {ocCs : Value} {odCs anCs : Option Addr} {slCs : Array (Option Value)} {kVCs dcCs pmCs cdCs ctCs : Value} (eCs : PySem.W.nsIn K mainGlobals "are_corners" = some (some (.ref fCs))) (lCs : K.lookup fCs = some ⟨ocCs, odCs, .func (PySem.W.fnOf "are_corners" "are_corners" (defArgs sCs) (defBody sCs) (defScope sCs) .none kVCs dcCs pmCs anCs cdCs ctCs), slCs⟩) (jCs : PySem.W.codeIn K cdCs "are_corners" = true) (kCs : PySem.W.keepIn K (.ref fCs) = true)
    {fTot : Addr} {ocTot : Value} {odTot anTot : Option Addr} {slTot : Array (Option Value)} {kVTot dcTot pmTot cdTot ctTot : Value} (eTot : PySem.W.nsIn K mainGlobals "side_total" = some (some (.ref fTot))) (lTot : K.lookup fTot = some ⟨ocTot, odTot, .func (PySem.W.fnOf "side_total" "side_total" (defArgs sTot) (defBody sTot) (defScope sTot) .none kVTot dcTot pmTot anTot cdTot ctTot), slTot⟩) (jTot : PySem.W.codeIn K cdTot "side_total" = true) (kTot : PySem.W.keepIn K (.ref fTot) = true)
    {fSd : Addr} {ocSd : Value} {odSd anSd : Option Addr} {slSd : Array (Option Value)} {kVSd dcSd pmSd cdSd ctSd : Value} (eSd : PySem.W.nsIn K mainGlobals "are_open_sides" = some (some (.ref fSd))) (lSd : K.lookup fSd = some ⟨ocSd, odSd, .func (PySem.W.fnOf "are_open_sides" "are_open_sides" (defArgs sSd) (defBody sSd) (defScope sSd) .none kVSd dcSd pmSd anSd cdSd ctSd), slSd⟩) (jSd : PySem.W.codeIn K cdSd "are_open_sides" = true) (kSd : PySem.W.keepIn K (.ref fSd) = true)
    {fChB : Addr} {ocChB : Value} {odChB anChB : Option Addr} {slChB : Array (Option Value)} {kVChB dcChB pmChB cdChB ctChB : Value} (eChB : PySem.W.nsIn K mainGlobals "check_bottom" = some (some (.ref fChB))) (lChB : K.lookup fChB = some ⟨ocChB, odChB, .func (PySem.W.fnOf "check_bottom" "check_bottom" (defArgs sChB) (defBody sChB) (defScope sChB) .none kVChB dcChB pmChB anChB cdChB ctChB), slChB⟩) (jChB : PySem.W.codeIn K cdChB "check_bottom" = true) (kChB : PySem.W.keepIn K (.ref fChB) = true)
    {fChk : Addr} {ocChk : Value} {odChk anChk : Option Addr} {slChk : Array (Option Value)} {kVChk dcChk pmChk cdChk ctChk : Value} (eChk : PySem.W.nsIn K mainGlobals "check_fence" = some (some (.ref fChk))) (lChk : K.lookup fChk = some ⟨ocChk, odChk, .func (PySem.W.fnOf "check_fence" "check_fence" (defArgs sChk) (defBody sChk) (defScope sChk) .none kVChk dcChk pmChk anChk cdChk ctChk), slChk⟩) (jChk : PySem.W.codeIn K cdChk "check_fence" = true) (kChk : PySem.W.keepIn K (.ref fChk) = true)
    {fCkS : Addr} {ocCkS : Value} {odCkS anCkS : Option Addr} {slCkS : Array (Option Value)} {kVCkS dcCkS pmCkS cdCkS ctCkS : Value} (eCkS : PySem.W.nsIn K mainGlobals "check_size" = some (some (.ref fCkS))) (lCkS : K.lookup fCkS = some ⟨ocCkS, odCkS, .func (PySem.W.fnOf "check_size" "check_size" (defArgs sCkS) (defBody sCkS) (defScope sCkS) .none kVCkS dcCkS pmCkS anCkS cdCkS ctCkS), slCkS⟩) (jCkS : PySem.W.codeIn K cdCkS "check_size" = true) (kCkS : PySem.W.keepIn K (.ref fCkS) = true)
    {fLea : Addr} {ocLea : Value} {odLea anLea : Option Addr} {slLea : Array (Option Value)} {kVLea dcLea pmLea cdLea ctLea : Value} (eLea : PySem.W.nsIn K mainGlobals "least_from" = some (some (.ref fLea))) (lLea : K.lookup fLea = some ⟨ocLea, odLea, .func (PySem.W.fnOf "least_from" "least_from" (defArgs sLea) (defBody sLea) (defScope sLea) .none kVLea dcLea pmLea anLea cdLea ctLea), slLea⟩) (jLea : PySem.W.codeIn K cdLea "least_from" = true) (kLea : PySem.W.keepIn K (.ref fLea) = true)
    {fGrt : Addr} {ocGrt : Value} {odGrt anGrt : Option Addr} {slGrt : Array (Option Value)} {kVGrt dcGrt pmGrt cdGrt ctGrt : Value} (eGrt : PySem.W.nsIn K mainGlobals "greatest_to" = some (some (.ref fGrt))) (lGrt : K.lookup fGrt = some ⟨ocGrt, odGrt, .func (PySem.W.fnOf "greatest_to" "greatest_to" (defArgs sGrt) (defBody sGrt) (defScope sGrt) .none kVGrt dcGrt pmGrt anGrt cdGrt ctGrt), slGrt⟩) (jGrt : PySem.W.codeIn K cdGrt "greatest_to" = true) (kGrt : PySem.W.keepIn K (.ref fGrt) = true)
    {fInv : Addr} {ocInv : Value} {odInv anInv : Option Addr} {slInv : Array (Option Value)} {kVInv dcInv pmInv cdInv ctInv : Value} (eInv : PySem.W.nsIn K mainGlobals "inverse_of" = some (some (.ref fInv))) (lInv : K.lookup fInv = some ⟨ocInv, odInv, .func (PySem.W.fnOf "inverse_of" "inverse_of" (defArgs sInv) (defBody sInv) (defScope sInv) .none kVInv dcInv pmInv anInv cdInv ctInv), slInv⟩) (jInv : PySem.W.codeIn K cdInv "inverse_of" = true) (kInv : PySem.W.keepIn K (.ref fInv) = true)
    {fEon : Addr} {ocEon : Value} {odEon anEon : Option Addr} {slEon : Array (Option Value)} {kVEon dcEon pmEon cdEon ctEon : Value} (eEon : PySem.W.nsIn K mainGlobals "ends_or_none" = some (some (.ref fEon))) (lEon : K.lookup fEon = some ⟨ocEon, odEon, .func (PySem.W.fnOf "ends_or_none" "ends_or_none" (defArgs sEon) (defBody sEon) (defScope sEon) .none kVEon dcEon pmEon anEon cdEon ctEon), slEon⟩) (jEon : PySem.W.codeIn K cdEon "ends_or_none" = true) (kEon : PySem.W.keepIn K (.ref fEon) = true)
    {fRea : Addr} {ocRea : Value} {odRea anRea : Option Addr} {slRea : Array (Option Value)} {kVRea dcRea pmRea cdRea ctRea : Value} (eRea : PySem.W.nsIn K mainGlobals "reach" = some (some (.ref fRea))) (lRea : K.lookup fRea = some ⟨ocRea, odRea, .func (PySem.W.fnOf "reach" "reach" (defArgs sRea) (defBody sRea) (defScope sRea) .none kVRea dcRea pmRea anRea cdRea ctRea), slRea⟩) (jRea : PySem.W.codeIn K cdRea "reach" = true) (kRea : PySem.W.keepIn K (.ref fRea) = true)
    {fFl : Addr} {ocFl : Value} {odFl anFl : Option Addr} {slFl : Array (Option Value)} {kVFl dcFl pmFl cdFl ctFl : Value} (eFl : PySem.W.nsIn K mainGlobals "field_lines" = some (some (.ref fFl))) (lFl : K.lookup fFl = some ⟨ocFl, odFl, .func (PySem.W.fnOf "field_lines" "field_lines" (defArgs sFl) (defBody sFl) (defScope sFl) .none kVFl dcFl pmFl anFl cdFl ctFl), slFl⟩) (jFl : PySem.W.codeIn K cdFl "field_lines" = true) (kFl : PySem.W.keepIn K (.ref fFl) = true)
    {fFr : Addr} {ocFr : Value} {odFr anFr : Option Addr} {slFr : Array (Option Value)} {kVFr dcFr pmFr cdFr ctFr : Value} (eFr : PySem.W.nsIn K mainGlobals "field_row" = some (some (.ref fFr))) (lFr : K.lookup fFr = some ⟨ocFr, odFr, .func (PySem.W.fnOf "field_row" "field_row" (defArgs sFr) (defBody sFr) (defScope sFr) .none kVFr dcFr pmFr anFr cdFr ctFr), slFr⟩) (jFr : PySem.W.codeIn K cdFr "field_row" = true) (kFr : PySem.W.keepIn K (.ref fFr) = true)
    {fRr : Addr} {ocRr : Value} {odRr anRr : Option Addr} {slRr : Array (Option Value)} {kVRr dcRr pmRr cdRr ctRr : Value} (eRr : PySem.W.nsIn K mainGlobals "row_runs" = some (some (.ref fRr))) (lRr : K.lookup fRr = some ⟨ocRr, odRr, .func (PySem.W.fnOf "row_runs" "row_runs" (defArgs sRr) (defBody sRr) (defScope sRr) .none kVRr dcRr pmRr anRr cdRr ctRr), slRr⟩) (jRr : PySem.W.codeIn K cdRr "row_runs" = true) (kRr : PySem.W.keepIn K (.ref fRr) = true)
    {fSb : Addr} {ocSb : Value} {odSb anSb : Option Addr} {slSb : Array (Option Value)} {kVSb dcSb pmSb cdSb ctSb : Value} (eSb : PySem.W.nsIn K mainGlobals "strips_between" = some (some (.ref fSb))) (lSb : K.lookup fSb = some ⟨ocSb, odSb, .func (PySem.W.fnOf "strips_between" "strips_between" (defArgs sSb) (defBody sSb) (defScope sSb) .none kVSb dcSb pmSb anSb cdSb ctSb), slSb⟩) (jSb : PySem.W.codeIn K cdSb "strips_between" = true) (kSb : PySem.W.keepIn K (.ref fSb) = true)
    {fFd : Addr} {ocFd : Value} {odFd anFd : Option Addr} {slFd : Array (Option Value)} {kVFd dcFd pmFd cdFd ctFd : Value} (eFd : PySem.W.nsIn K mainGlobals "field_pieces" = some (some (.ref fFd))) (lFd : K.lookup fFd = some ⟨ocFd, odFd, .func (PySem.W.fnOf "field_pieces" "field_pieces" (defArgs sFd) (defBody sFd) (defScope sFd) .none kVFd dcFd pmFd anFd cdFd ctFd), slFd⟩) (jFd : PySem.W.codeIn K cdFd "field_pieces" = true) (kFd : PySem.W.keepIn K (.ref fFd) = true)
    {fPr : Addr} {ocPr : Value} {odPr anPr : Option Addr} {slPr : Array (Option Value)} {kVPr dcPr pmPr cdPr ctPr : Value} (ePr : PySem.W.nsIn K mainGlobals "point_runs" = some (some (.ref fPr))) (lPr : K.lookup fPr = some ⟨ocPr, odPr, .func (PySem.W.fnOf "point_runs" "point_runs" (defArgs sPr) (defBody sPr) (defScope sPr) .none kVPr dcPr pmPr anPr cdPr ctPr), slPr⟩) (jPr : PySem.W.codeIn K cdPr "point_runs" = true) (kPr : PySem.W.keepIn K (.ref fPr) = true)
    {fBt : Addr} {ocBt : Value} {odBt anBt : Option Addr} {slBt : Array (Option Value)} {kVBt dcBt pmBt cdBt ctBt : Value} (eBt : PySem.W.nsIn K mainGlobals "between_runs" = some (some (.ref fBt))) (lBt : K.lookup fBt = some ⟨ocBt, odBt, .func (PySem.W.fnOf "between_runs" "between_runs" (defArgs sBt) (defBody sBt) (defScope sBt) .none kVBt dcBt pmBt anBt cdBt ctBt), slBt⟩) (jBt : PySem.W.codeIn K cdBt "between_runs" = true) (kBt : PySem.W.keepIn K (.ref fBt) = true)
    {fSp : Addr} {ocSp : Value} {odSp anSp : Option Addr} {slSp : Array (Option Value)} {kVSp dcSp pmSp cdSp ctSp : Value} (eSp : PySem.W.nsIn K mainGlobals "stretch_pieces" = some (some (.ref fSp))) (lSp : K.lookup fSp = some ⟨ocSp, odSp, .func (PySem.W.fnOf "stretch_pieces" "stretch_pieces" (defArgs sSp) (defBody sSp) (defScope sSp) .none kVSp dcSp pmSp anSp cdSp ctSp), slSp⟩) (jSp : PySem.W.codeIn K cdSp "stretch_pieces" = true) (kSp : PySem.W.keepIn K (.ref fSp) = true)
    {fFp : Addr} {ocFp : Value} {odFp anFp : Option Addr} {slFp : Array (Option Value)} {kVFp dcFp pmFp cdFp ctFp : Value} (eFp : PySem.W.nsIn K mainGlobals "fence_pieces" = some (some (.ref fFp))) (lFp : K.lookup fFp = some ⟨ocFp, odFp, .func (PySem.W.fnOf "fence_pieces" "fence_pieces" (defArgs sFp) (defBody sFp) (defScope sFp) .none kVFp dcFp pmFp anFp cdFp ctFp), slFp⟩) (jFp : PySem.W.codeIn K cdFp "fence_pieces" = true) (kFp : PySem.W.keepIn K (.ref fFp) = true)
    {fFlo : Addr} {ocFlo : Value} {odFlo anFlo : Option Addr} {slFlo : Array (Option Value)} {kVFlo dcFlo pmFlo cdFlo ctFlo : Value} (eFlo : PySem.W.nsIn K mainGlobals "floor_sum" = some (some (.ref fFlo))) (lFlo : K.lookup fFlo = some ⟨ocFlo, odFlo, .func (PySem.W.fnOf "floor_sum" "floor_sum" (defArgs sFlo) (defBody sFlo) (defScope sFlo) .none kVFlo dcFlo pmFlo anFlo cdFlo ctFlo), slFlo⟩) (jFlo : PySem.W.codeIn K cdFlo "floor_sum" = true) (kFlo : PySem.W.keepIn K (.ref fFlo) = true)
    {fRsm : Addr} {ocRsm : Value} {odRsm anRsm : Option Addr} {slRsm : Array (Option Value)} {kVRsm dcRsm pmRsm cdRsm ctRsm : Value} (eRsm : PySem.W.nsIn K mainGlobals "reach_sum" = some (some (.ref fRsm))) (lRsm : K.lookup fRsm = some ⟨ocRsm, odRsm, .func (PySem.W.fnOf "reach_sum" "reach_sum" (defArgs sRsm) (defBody sRsm) (defScope sRsm) .none kVRsm dcRsm pmRsm anRsm cdRsm ctRsm), slRsm⟩) (jRsm : PySem.W.codeIn K cdRsm "reach_sum" = true) (kRsm : PySem.W.keepIn K (.ref fRsm) = true)
    {fTof : Addr} {ocTof : Value} {odTof anTof : Option Addr} {slTof : Array (Option Value)} {kVTof dcTof pmTof cdTof ctTof : Value} (eTof : PySem.W.nsIn K mainGlobals "total_of" = some (some (.ref fTof))) (lTof : K.lookup fTof = some ⟨ocTof, odTof, .func (PySem.W.fnOf "total_of" "total_of" (defArgs sTof) (defBody sTof) (defScope sTof) .none kVTof dcTof pmTof anTof cdTof ctTof), slTof⟩) (jTof : PySem.W.codeIn K cdTof "total_of" = true) (kTof : PySem.W.keepIn K (.ref fTof) = true)
    {fTto : Addr} {ocTto : Value} {odTto anTto : Option Addr} {slTto : Array (Option Value)} {kVTto dcTto pmTto cdTto ctTto : Value} (eTto : PySem.W.nsIn K mainGlobals "total_to" = some (some (.ref fTto))) (lTto : K.lookup fTto = some ⟨ocTto, odTto, .func (PySem.W.fnOf "total_to" "total_to" (defArgs sTto) (defBody sTto) (defScope sTto) .none kVTto dcTto pmTto anTto cdTto ctTto), slTto⟩) (jTto : PySem.W.codeIn K cdTto "total_to" = true) (kTto : PySem.W.keepIn K (.ref fTto) = true)
    {fSof : Addr} {ocSof : Value} {odSof anSof : Option Addr} {slSof : Array (Option Value)} {kVSof dcSof pmSof cdSof ctSof : Value} (eSof : PySem.W.nsIn K mainGlobals "stake_of" = some (some (.ref fSof))) (lSof : K.lookup fSof = some ⟨ocSof, odSof, .func (PySem.W.fnOf "stake_of" "stake_of" (defArgs sSof) (defBody sSof) (defScope sSof) .none kVSof dcSof pmSof anSof cdSof ctSof), slSof⟩) (jSof : PySem.W.codeIn K cdSof "stake_of" = true) (kSof : PySem.W.keepIn K (.ref fSof) = true)
    {fEof : Addr} {ocEof : Value} {odEof anEof : Option Addr} {slEof : Array (Option Value)} {kVEof dcEof pmEof cdEof ctEof : Value} (eEof : PySem.W.nsIn K mainGlobals "ends_of" = some (some (.ref fEof))) (lEof : K.lookup fEof = some ⟨ocEof, odEof, .func (PySem.W.fnOf "ends_of" "ends_of" (defArgs sEof) (defBody sEof) (defScope sEof) .none kVEof dcEof pmEof anEof cdEof ctEof), slEof⟩) (jEof : PySem.W.codeIn K cdEof "ends_of" = true) (kEof : PySem.W.keepIn K (.ref fEof) = true)
    {fCkR : Addr} {ocCkR : Value} {odCkR anCkR : Option Addr} {slCkR : Array (Option Value)} {kVCkR dcCkR pmCkR cdCkR ctCkR : Value} (eCkR : PySem.W.nsIn K mainGlobals "check_row" = some (some (.ref fCkR))) (lCkR : K.lookup fCkR = some ⟨ocCkR, odCkR, .func (PySem.W.fnOf "check_row" "check_row" (defArgs sCkR) (defBody sCkR) (defScope sCkR) .none kVCkR dcCkR pmCkR anCkR cdCkR ctCkR), slCkR⟩) (jCkR : PySem.W.codeIn K cdCkR "check_row" = true) (kCkR : PySem.W.keepIn K (.ref fCkR) = true)
    {fRwc : Addr} {ocRwc : Value} {odRwc anRwc : Option Addr} {slRwc : Array (Option Value)} {kVRwc dcRwc pmRwc cdRwc ctRwc : Value} (eRwc : PySem.W.nsIn K mainGlobals "row_count" = some (some (.ref fRwc))) (lRwc : K.lookup fRwc = some ⟨ocRwc, odRwc, .func (PySem.W.fnOf "row_count" "row_count" (defArgs sRwc) (defBody sRwc) (defScope sRwc) .none kVRwc dcRwc pmRwc anRwc cdRwc ctRwc), slRwc⟩) (jRwc : PySem.W.codeIn K cdRwc "row_count" = true) (kRwc : PySem.W.keepIn K (.ref fRwc) = true)
    {fBlw : Addr} {ocBlw : Value} {odBlw anBlw : Option Addr} {slBlw : Array (Option Value)} {kVBlw dcBlw pmBlw cdBlw ctBlw : Value} (eBlw : PySem.W.nsIn K mainGlobals "below_count" = some (some (.ref fBlw))) (lBlw : K.lookup fBlw = some ⟨ocBlw, odBlw, .func (PySem.W.fnOf "below_count" "below_count" (defArgs sBlw) (defBody sBlw) (defScope sBlw) .none kVBlw dcBlw pmBlw anBlw cdBlw ctBlw), slBlw⟩) (jBlw : PySem.W.codeIn K cdBlw "below_count" = true) (kBlw : PySem.W.keepIn K (.ref fBlw) = true)
    {fCnt : Addr} {ocCnt : Value} {odCnt anCnt : Option Addr} {slCnt : Array (Option Value)} {kVCnt dcCnt pmCnt cdCnt ctCnt : Value} (eCnt : PySem.W.nsIn K mainGlobals "stake_count" = some (some (.ref fCnt))) (lCnt : K.lookup fCnt = some ⟨ocCnt, odCnt, .func (PySem.W.fnOf "stake_count" "stake_count" (defArgs sCnt) (defBody sCnt) (defScope sCnt) .none kVCnt dcCnt pmCnt anCnt cdCnt ctCnt), slCnt⟩) (jCnt : PySem.W.codeIn K cdCnt "stake_count" = true) (kCnt : PySem.W.keepIn K (.ref fCnt) = true)
    {fSrw : Addr} {ocSrw : Value} {odSrw anSrw : Option Addr} {slSrw : Array (Option Value)} {kVSrw dcSrw pmSrw cdSrw ctSrw : Value} (eSrw : PySem.W.nsIn K mainGlobals "stake_rows" = some (some (.ref fSrw))) (lSrw : K.lookup fSrw = some ⟨ocSrw, odSrw, .func (PySem.W.fnOf "stake_rows" "stake_rows" (defArgs sSrw) (defBody sSrw) (defScope sSrw) .none kVSrw dcSrw pmSrw anSrw cdSrw ctSrw), slSrw⟩) (jSrw : PySem.W.codeIn K cdSrw "stake_rows" = true) (kSrw : PySem.W.keepIn K (.ref fSrw) = true)
    {fRst : Addr} {ocRst : Value} {odRst anRst : Option Addr} {slRst : Array (Option Value)} {kVRst dcRst pmRst cdRst ctRst : Value} (eRst : PySem.W.nsIn K mainGlobals "row_stakes" = some (some (.ref fRst))) (lRst : K.lookup fRst = some ⟨ocRst, odRst, .func (PySem.W.fnOf "row_stakes" "row_stakes" (defArgs sRst) (defBody sRst) (defScope sRst) .none kVRst dcRst pmRst anRst cdRst ctRst), slRst⟩) (jRst : PySem.W.codeIn K cdRst "row_stakes" = true) (kRst : PySem.W.keepIn K (.ref fRst) = true)
    {fPool : Addr} {ocPool : Value} {odPool anPool : Option Addr} {slPool : Array (Option Value)} {kVPool dcPool pmPool cdPool ctPool : Value} (ePool : PySem.W.nsIn K mainGlobals "_law_pool" = some (some (.ref fPool))) (lPool : K.lookup fPool = some ⟨ocPool, odPool, .func (PySem.W.fnOf "_law_pool" "_law_pool" (defArgs sPool) (defBody sPool) (defScope sPool) .none kVPool dcPool pmPool anPool cdPool ctPool), slPool⟩) (jPool : PySem.W.codeIn K cdPool "_law_pool" = true) (kPool : PySem.W.keepIn K (.ref fPool) = true)
    {fDrw : Addr} {ocDrw : Value} {odDrw anDrw : Option Addr} {slDrw : Array (Option Value)} {kVDrw dcDrw pmDrw cdDrw ctDrw : Value} (eDrw : PySem.W.nsIn K mainGlobals "_law_draw" = some (some (.ref fDrw))) (lDrw : K.lookup fDrw = some ⟨ocDrw, odDrw, .func (PySem.W.fnOf "_law_draw" "_law_draw" (defArgs sDrw) (defBody sDrw) (defScope sDrw) .none kVDrw dcDrw pmDrw anDrw cdDrw ctDrw), slDrw⟩) (jDrw : PySem.W.codeIn K cdDrw "_law_draw" = true) (kDrw : PySem.W.keepIn K (.ref fDrw) = true)
    {fTr : Addr} {ocTr : Value} {odTr anTr : Option Addr} {slTr : Array (Option Value)} {kVTr dcTr pmTr cdTr ctTr : Value} (eTr : PySem.W.nsIn K mainGlobals "_law_turn" = some (some (.ref fTr))) (lTr : K.lookup fTr = some ⟨ocTr, odTr, .func (PySem.W.fnOf "_law_turn" "_law_turn" (defArgs sTr) (defBody sTr) (defScope sTr) .none kVTr dcTr pmTr anTr cdTr ctTr), slTr⟩) (jTr : PySem.W.codeIn K cdTr "_law_turn" = true) (kTr : PySem.W.keepIn K (.ref fTr) = true)
    {fCor : Addr} {ocCor : Value} {odCor anCor : Option Addr} {slCor : Array (Option Value)} {kVCor dcCor pmCor cdCor ctCor : Value} (eCor : PySem.W.nsIn K mainGlobals "_law_corners" = some (some (.ref fCor))) (lCor : K.lookup fCor = some ⟨ocCor, odCor, .func (PySem.W.fnOf "_law_corners" "_law_corners" (defArgs sCor) (defBody sCor) (defScope sCor) .none kVCor dcCor pmCor anCor cdCor ctCor), slCor⟩) (jCor : PySem.W.codeIn K cdCor "_law_corners" = true) (kCor : PySem.W.keepIn K (.ref fCor) = true)
    {fTen : Addr} {ocTen : Value} {odTen anTen : Option Addr} {slTen : Array (Option Value)} {kVTen dcTen pmTen cdTen ctTen : Value} (eTen : PySem.W.nsIn K mainGlobals "_law_ten" = some (some (.ref fTen))) (lTen : K.lookup fTen = some ⟨ocTen, odTen, .func (PySem.W.fnOf "_law_ten" "_law_ten" (defArgs sTen) (defBody sTen) (defScope sTen) .none kVTen dcTen pmTen anTen cdTen ctTen), slTen⟩) (jTen : PySem.W.codeIn K cdTen "_law_ten" = true) (kTen : PySem.W.keepIn K (.ref fTen) = true)
    {fPlo : Addr} {ocPlo : Value} {odPlo anPlo : Option Addr} {slPlo : Array (Option Value)} {kVPlo dcPlo pmPlo cdPlo ctPlo : Value} (ePlo : PySem.W.nsIn K mainGlobals "_law_plot" = some (some (.ref fPlo))) (lPlo : K.lookup fPlo = some ⟨ocPlo, odPlo, .func (PySem.W.fnOf "_law_plot" "_law_plot" (defArgs sPlo) (defBody sPlo) (defScope sPlo) .none kVPlo dcPlo pmPlo anPlo cdPlo ctPlo), slPlo⟩) (jPlo : PySem.W.codeIn K cdPlo "_law_plot" = true) (kPlo : PySem.W.keepIn K (.ref fPlo) = true)
    {fHas : Addr} {ocHas : Value} {odHas anHas : Option Addr} {slHas : Array (Option Value)} {kVHas dcHas pmHas cdHas ctHas : Value} (eHas : PySem.W.nsIn K mainGlobals "_law_has" = some (some (.ref fHas))) (lHas : K.lookup fHas = some ⟨ocHas, odHas, .func (PySem.W.fnOf "_law_has" "_law_has" (defArgs sHas) (defBody sHas) (defScope sHas) .none kVHas dcHas pmHas anHas cdHas ctHas), slHas⟩) (jHas : PySem.W.codeIn K cdHas "_law_has" = true) (kHas : PySem.W.keepIn K (.ref fHas) = true)
    {fBox : Addr} {ocBox : Value} {odBox anBox : Option Addr} {slBox : Array (Option Value)} {kVBox dcBox pmBox cdBox ctBox : Value} (eBox : PySem.W.nsIn K mainGlobals "_law_box" = some (some (.ref fBox))) (lBox : K.lookup fBox = some ⟨ocBox, odBox, .func (PySem.W.fnOf "_law_box" "_law_box" (defArgs sBox) (defBody sBox) (defScope sBox) .none kVBox dcBox pmBox anBox cdBox ctBox), slBox⟩) (jBox : PySem.W.codeIn K cdBox "_law_box" = true) (kBox : PySem.W.keepIn K (.ref fBox) = true)
    {fRow : Addr} {ocRow : Value} {odRow anRow : Option Addr} {slRow : Array (Option Value)} {kVRow dcRow pmRow cdRow ctRow : Value} (eRow : PySem.W.nsIn K mainGlobals "_law_row" = some (some (.ref fRow))) (lRow : K.lookup fRow = some ⟨ocRow, odRow, .func (PySem.W.fnOf "_law_row" "_law_row" (defArgs sRow) (defBody sRow) (defScope sRow) .none kVRow dcRow pmRow anRow cdRow ctRow), slRow⟩) (jRow : PySem.W.codeIn K cdRow "_law_row" = true) (kRow : PySem.W.keepIn K (.ref fRow) = true)
    {fLvs : Addr} {ocLvs : Value} {odLvs anLvs : Option Addr} {slLvs : Array (Option Value)} {kVLvs dcLvs pmLvs cdLvs ctLvs : Value} (eLvs : PySem.W.nsIn K mainGlobals "_law_levels" = some (some (.ref fLvs))) (lLvs : K.lookup fLvs = some ⟨ocLvs, odLvs, .func (PySem.W.fnOf "_law_levels" "_law_levels" (defArgs sLvs) (defBody sLvs) (defScope sLvs) .none kVLvs dcLvs pmLvs anLvs cdLvs ctLvs), slLvs⟩) (jLvs : PySem.W.codeIn K cdLvs "_law_levels" = true) (kLvs : PySem.W.keepIn K (.ref fLvs) = true)
    {fRt : Addr} {ocRt : Value} {odRt anRt : Option Addr} {slRt : Array (Option Value)} {kVRt dcRt pmRt cdRt ctRt : Value} (eRt : PySem.W.nsIn K mainGlobals "_law_right" = some (some (.ref fRt))) (lRt : K.lookup fRt = some ⟨ocRt, odRt, .func (PySem.W.fnOf "_law_right" "_law_right" (defArgs sRt) (defBody sRt) (defScope sRt) .none kVRt dcRt pmRt anRt cdRt ctRt), slRt⟩) (jRt : PySem.W.codeIn K cdRt "_law_right" = true) (kRt : PySem.W.keepIn K (.ref fRt) = true)
    {fEr : Addr} {ocEr : Value} {odEr anEr : Option Addr} {slEr : Array (Option Value)} {kVEr dcEr pmEr cdEr ctEr : Value} (eEr : PySem.W.nsIn K mainGlobals "_law_ends_right" = some (some (.ref fEr))) (lEr : K.lookup fEr = some ⟨ocEr, odEr, .func (PySem.W.fnOf "_law_ends_right" "_law_ends_right" (defArgs sEr) (defBody sEr) (defScope sEr) .none kVEr dcEr pmEr anEr cdEr ctEr), slEr⟩) (jEr : PySem.W.codeIn K cdEr "_law_ends_right" = true) (kEr : PySem.W.keepIn K (.ref fEr) = true)
    {fLw : Addr} {ocLw : Value} {odLw anLw : Option Addr} {slLw : Array (Option Value)} {kVLw dcLw pmLw cdLw ctLw : Value} (eLw : PySem.W.nsIn K mainGlobals "law" = some (some (.ref fLw))) (lLw : K.lookup fLw = some ⟨ocLw, odLw, .func (PySem.W.fnOf "law" "law" (defArgs sLw) (defBody sLw) (defScope sLw) .none kVLw dcLw pmLw anLw cdLw ctLw), slLw⟩) (jLw : PySem.W.codeIn K cdLw "law" = true) (kLw : PySem.W.keepIn K (.ref fLw) = true)
    {CRun : Addr} (aCRun : PySem.W.nsIn K mainGlobals "Run" = some (some (.ref CRun)))
    {fRunI : Addr} {ocRunI : Value} {odRunI anRunI : Option Addr} {slRunI : Array (Option Value)} {kVRunI dcRunI pmRunI cdRunI ctRunI : Value} (eRunI : PySem.W.findIn K (.ref CRun) "__init__" = some (some (.ref fRunI))) (iRunI : PySem.W.isFn K (.ref fRunI) = true) (lRunI : K.lookup fRunI = some ⟨ocRunI, odRunI, .func (PySem.W.fnOf "__init__" "Run.__init__" (defArgs sRunI) (defBody sRunI) (defScope sRunI) .none kVRunI dcRunI pmRunI anRunI cdRunI ctRunI), slRunI⟩) (jRunI : PySem.W.codeIn K cdRunI "Run.__init__" = true) (kRunI : PySem.W.keepIn K (.ref fRunI) = true)
    {fRunW : Addr} {ocRunW : Value} {odRunW anRunW : Option Addr} {slRunW : Array (Option Value)} {kVRunW dcRunW pmRunW cdRunW ctRunW : Value} (eRunW : PySem.W.findIn K (.ref CRun) "whole_count" = some (some (.ref fRunW))) (iRunW : PySem.W.isFn K (.ref fRunW) = true) (lRunW : K.lookup fRunW = some ⟨ocRunW, odRunW, .func (PySem.W.fnOf "whole_count" "Run.whole_count" (defArgs sRunW) (defBody sRunW) (defScope sRunW) .none kVRunW dcRunW pmRunW anRunW cdRunW ctRunW), slRunW⟩) (jRunW : PySem.W.codeIn K cdRunW "Run.whole_count" = true) (kRunW : PySem.W.keepIn K (.ref fRunW) = true)
    {fRunC : Addr} {ocRunC : Value} {odRunC anRunC : Option Addr} {slRunC : Array (Option Value)} {kVRunC dcRunC pmRunC cdRunC ctRunC : Value} (eRunC : PySem.W.findIn K (.ref CRun) "count_to" = some (some (.ref fRunC))) (iRunC : PySem.W.isFn K (.ref fRunC) = true) (lRunC : K.lookup fRunC = some ⟨ocRunC, odRunC, .func (PySem.W.fnOf "count_to" "Run.count_to" (defArgs sRunC) (defBody sRunC) (defScope sRunC) .none kVRunC dcRunC pmRunC anRunC cdRunC ctRunC), slRunC⟩) (jRunC : PySem.W.codeIn K cdRunC "Run.count_to" = true) (kRunC : PySem.W.keepIn K (.ref fRunC) = true)
    {fRunS : Addr} {ocRunS : Value} {odRunS anRunS : Option Addr} {slRunS : Array (Option Value)} {kVRunS dcRunS pmRunS cdRunS ctRunS : Value} (eRunS : PySem.W.findIn K (.ref CRun) "stake_at" = some (some (.ref fRunS))) (iRunS : PySem.W.isFn K (.ref fRunS) = true) (lRunS : K.lookup fRunS = some ⟨ocRunS, odRunS, .func (PySem.W.fnOf "stake_at" "Run.stake_at" (defArgs sRunS) (defBody sRunS) (defScope sRunS) .none kVRunS dcRunS pmRunS anRunS cdRunS ctRunS), slRunS⟩) (jRunS : PySem.W.codeIn K cdRunS "Run.stake_at" = true) (kRunS : PySem.W.keepIn K (.ref fRunS) = true)
    {fRunE : Addr} {ocRunE : Value} {odRunE anRunE : Option Addr} {slRunE : Array (Option Value)} {kVRunE dcRunE pmRunE cdRunE ctRunE : Value} (eRunE : PySem.W.findIn K (.ref CRun) "row_ends" = some (some (.ref fRunE))) (iRunE : PySem.W.isFn K (.ref fRunE) = true) (lRunE : K.lookup fRunE = some ⟨ocRunE, odRunE, .func (PySem.W.fnOf "row_ends" "Run.row_ends" (defArgs sRunE) (defBody sRunE) (defScope sRunE) .none kVRunE dcRunE pmRunE anRunE cdRunE ctRunE), slRunE⟩) (jRunE : PySem.W.codeIn K cdRunE "Run.row_ends" = true) (kRunE : PySem.W.keepIn K (.ref fRunE) = true)
    (pgRun : PySem.W.plainGet K CRun Str.empty = true) (hdRun : PySem.W.hasDictIn K CRun = true) (poRun : PySem.W.plainOver K CRun = true) (saRun : PySem.W.findIn K (.ref CRun) "__setattr__" = some (some (.builtin "object.__setattr__"))) (mkRun : PySem.W.makesIn K CRun = true) (kcRun : PySem.W.keepIn K (.ref CRun) = true)
    (nfRun0 : PySem.W.findIn K (.ref CRun) "start" = some none)
    (nfRun1 : PySem.W.findIn K (.ref CRun) "step" = some none)
    (nfRun2 : PySem.W.findIn K (.ref CRun) "many" = some none)
    {CStp : Addr} (aCStp : PySem.W.nsIn K mainGlobals "Strip" = some (some (.ref CStp)))
    {fStpI : Addr} {ocStpI : Value} {odStpI anStpI : Option Addr} {slStpI : Array (Option Value)} {kVStpI dcStpI pmStpI cdStpI ctStpI : Value} (eStpI : PySem.W.findIn K (.ref CStp) "__init__" = some (some (.ref fStpI))) (iStpI : PySem.W.isFn K (.ref fStpI) = true) (lStpI : K.lookup fStpI = some ⟨ocStpI, odStpI, .func (PySem.W.fnOf "__init__" "Strip.__init__" (defArgs sStpI) (defBody sStpI) (defScope sStpI) .none kVStpI dcStpI pmStpI anStpI cdStpI ctStpI), slStpI⟩) (jStpI : PySem.W.codeIn K cdStpI "Strip.__init__" = true) (kStpI : PySem.W.keepIn K (.ref fStpI) = true)
    {fStpW : Addr} {ocStpW : Value} {odStpW anStpW : Option Addr} {slStpW : Array (Option Value)} {kVStpW dcStpW pmStpW cdStpW ctStpW : Value} (eStpW : PySem.W.findIn K (.ref CStp) "whole_count" = some (some (.ref fStpW))) (iStpW : PySem.W.isFn K (.ref fStpW) = true) (lStpW : K.lookup fStpW = some ⟨ocStpW, odStpW, .func (PySem.W.fnOf "whole_count" "Strip.whole_count" (defArgs sStpW) (defBody sStpW) (defScope sStpW) .none kVStpW dcStpW pmStpW anStpW cdStpW ctStpW), slStpW⟩) (jStpW : PySem.W.codeIn K cdStpW "Strip.whole_count" = true) (kStpW : PySem.W.keepIn K (.ref fStpW) = true)
    {fStpC : Addr} {ocStpC : Value} {odStpC anStpC : Option Addr} {slStpC : Array (Option Value)} {kVStpC dcStpC pmStpC cdStpC ctStpC : Value} (eStpC : PySem.W.findIn K (.ref CStp) "count_to" = some (some (.ref fStpC))) (iStpC : PySem.W.isFn K (.ref fStpC) = true) (lStpC : K.lookup fStpC = some ⟨ocStpC, odStpC, .func (PySem.W.fnOf "count_to" "Strip.count_to" (defArgs sStpC) (defBody sStpC) (defScope sStpC) .none kVStpC dcStpC pmStpC anStpC cdStpC ctStpC), slStpC⟩) (jStpC : PySem.W.codeIn K cdStpC "Strip.count_to" = true) (kStpC : PySem.W.keepIn K (.ref fStpC) = true)
    {fStpS : Addr} {ocStpS : Value} {odStpS anStpS : Option Addr} {slStpS : Array (Option Value)} {kVStpS dcStpS pmStpS cdStpS ctStpS : Value} (eStpS : PySem.W.findIn K (.ref CStp) "stake_at" = some (some (.ref fStpS))) (iStpS : PySem.W.isFn K (.ref fStpS) = true) (lStpS : K.lookup fStpS = some ⟨ocStpS, odStpS, .func (PySem.W.fnOf "stake_at" "Strip.stake_at" (defArgs sStpS) (defBody sStpS) (defScope sStpS) .none kVStpS dcStpS pmStpS anStpS cdStpS ctStpS), slStpS⟩) (jStpS : PySem.W.codeIn K cdStpS "Strip.stake_at" = true) (kStpS : PySem.W.keepIn K (.ref fStpS) = true)
    {fStpE : Addr} {ocStpE : Value} {odStpE anStpE : Option Addr} {slStpE : Array (Option Value)} {kVStpE dcStpE pmStpE cdStpE ctStpE : Value} (eStpE : PySem.W.findIn K (.ref CStp) "row_ends" = some (some (.ref fStpE))) (iStpE : PySem.W.isFn K (.ref fStpE) = true) (lStpE : K.lookup fStpE = some ⟨ocStpE, odStpE, .func (PySem.W.fnOf "row_ends" "Strip.row_ends" (defArgs sStpE) (defBody sStpE) (defScope sStpE) .none kVStpE dcStpE pmStpE anStpE cdStpE ctStpE), slStpE⟩) (jStpE : PySem.W.codeIn K cdStpE "Strip.row_ends" = true) (kStpE : PySem.W.keepIn K (.ref fStpE) = true)
    (pgStp : PySem.W.plainGet K CStp Str.empty = true) (hdStp : PySem.W.hasDictIn K CStp = true) (poStp : PySem.W.plainOver K CStp = true) (saStp : PySem.W.findIn K (.ref CStp) "__setattr__" = some (some (.builtin "object.__setattr__"))) (mkStp : PySem.W.makesIn K CStp = true) (kcStp : PySem.W.keepIn K (.ref CStp) = true)
    (nfStp0 : PySem.W.findIn K (.ref CStp) "first" = some none)
    (nfStp1 : PySem.W.findIn K (.ref CStp) "last" = some none)
    (nfStp2 : PySem.W.findIn K (.ref CStp) "left" = some none)
    (nfStp3 : PySem.W.findIn K (.ref CStp) "right" = some none)
    : ∃ fd : FuncData, (∀ (s : Shared) (u : Value), BindsTo s fd ⟨[u], []⟩ [("_law_script", u)]) ∧ ∀ base : Heap, K.In base → base.Ns mainGlobals mg → FnG P w K mg base CX0 10 fa fd ["_law_script"] (spLw K) := by
  have z := hfa.symm.trans (PySem.W.mg_of X G eLw)
  cases z
  have m : ∀ {x : Str} {v : Value}, PySem.W.nsIn K mainGlobals x = some (some v) → mg x = some v := fun e => PySem.W.mg_of X G e
  have n : ∀ {x : Str}, PySem.W.nsIn K mainGlobals x = some none → mg x = none := fun e => PySem.W.mg_none_of X G e
  have FTurnP := fun_mk (st := sTurnP) lTurnP jTurnP kTurnP
  have BTurnP := FTurnP.binds (ps := ["one", "two", "three"]) fun _ _ _ _ _ _ us hl => match us, hl with | [_, _, _], _ => rfl
  have FNx := fun_mk (st := sNx) lNx jNx kNx
  have BNx := FNx.binds (ps := ["corners", "side"]) fun _ _ _ _ _ _ us hl => match us, hl with | [_, _], _ => rfl
  have FLs := fun_mk (st := sLs) lLs jLs kLs
  have BLs := FLs.binds (ps := ["corners", "side"]) fun _ _ _ _ _ _ us hl => match us, hl with | [_, _], _ => rfl
  have FOut := fun_mk (st := sOut) lOut jOut kOut
  have BOut := FOut.binds (ps := ["corners"]) fun _ _ _ _ _ _ us hl => match us, hl with | [_], _ => rfl
  have FInt := fun_mk (st := sInt) lInt jInt kInt
  have BInt := FInt.binds (ps := ["value"]) fun _ _ _ _ _ _ us hl => match us, hl with | [_], _ => rfl
  have FBet := fun_mk (st := sBet) lBet jBet kBet
  have BBet := FBet.binds (ps := ["value", "least", "greatest"]) fun _ _ _ _ _ _ us hl => match us, hl with | [_, _, _], _ => rfl
  have FIsP := fun_mk (st := sIsP) lIsP jIsP kIsP
  have BIsP := FIsP.binds (ps := ["value"]) fun _ _ _ _ _ _ us hl => match us, hl with | [_], _ => rfl
  have FIsC := fun_mk (st := sIsC) lIsC jIsC kIsC
  have BIsC := FIsC.binds (ps := ["value"]) fun _ _ _ _ _ _ us hl => match us, hl with | [_], _ => rfl
  have FIsB := fun_mk (st := sIsB) lIsB jIsB kIsB
  have BIsB := FIsB.binds (ps := ["value"]) fun _ _ _ _ _ _ us hl => match us, hl with | [_], _ => rfl
  have FCs := fun_mk (st := sCs) lCs jCs kCs
  have BCs := FCs.binds (ps := ["value"]) fun _ _ _ _ _ _ us hl => match us, hl with | [_], _ => rfl
  have FTot := fun_mk (st := sTot) lTot jTot kTot
  have BTot := FTot.binds (ps := ["corners"]) fun _ _ _ _ _ _ us hl => match us, hl with | [_], _ => rfl
  have FSd := fun_mk (st := sSd) lSd jSd kSd
  have BSd := FSd.binds (ps := ["value", "total"]) fun _ _ _ _ _ _ us hl => match us, hl with | [_, _], _ => rfl
  have FChB := fun_mk (st := sChB) lChB jChB kChB
  have BChB := FChB.binds (ps := ["value"]) fun _ _ _ _ _ _ us hl => match us, hl with | [_], _ => rfl
  have FChk := fun_mk (st := sChk) lChk jChk kChk
  have BChk := FChk.binds (ps := ["value"]) fun _ _ _ _ _ _ us hl => match us, hl with | [_], _ => rfl
  have FCkS := fun_mk (st := sCkS) lCkS jCkS kCkS
  have BCkS := FCkS.binds (ps := ["value"]) fun _ _ _ _ _ _ us hl => match us, hl with | [_], _ => rfl
  have FLea := fun_mk (st := sLea) lLea jLea kLea
  have BLea := FLea.binds (ps := ["top", "bottom", "beyond"]) fun _ _ _ _ _ _ us hl => match us, hl with | [_, _, _], _ => rfl
  have FGrt := fun_mk (st := sGrt) lGrt jGrt kGrt
  have BGrt := FGrt.binds (ps := ["top", "bottom", "beyond"]) fun _ _ _ _ _ _ us hl => match us, hl with | [_, _, _], _ => rfl
  have FInv := fun_mk (st := sInv) lInv jInv kInv
  have BInv := FInv.binds (ps := ["number", "modulus"]) fun _ _ _ _ _ _ us hl => match us, hl with | [_, _], _ => rfl
  have FEon := fun_mk (st := sEon) lEon jEon kEon
  have BEon := FEon.binds (ps := ["least", "greatest"]) fun _ _ _ _ _ _ us hl => match us, hl with | [_, _], _ => rfl
  have FRea := fun_mk (st := sRea) lRea jRea kRea
  have BRea := FRea.binds (ps := ["line", "row"]) fun _ _ _ _ _ _ us hl => match us, hl with | [_, _], _ => rfl
  have FFl := fun_mk (st := sFl) lFl jFl kFl
  have BFl := FFl.binds (ps := ["fence", "size"]) fun _ _ _ _ _ _ us hl => match us, hl with | [_, _], _ => rfl
  have FFr := fun_mk (st := sFr) lFr jFr kFr
  have BFr := FFr.binds (ps := ["lines", "row"]) fun _ _ _ _ _ _ us hl => match us, hl with | [_, _], _ => rfl
  have FRr := fun_mk (st := sRr) lRr jRr kRr
  have BRr := FRr.binds (ps := ["lines", "row"]) fun _ _ _ _ _ _ us hl => match us, hl with | [_, _], _ => rfl
  have FSb := fun_mk (st := sSb) lSb jSb kSb
  have BSb := FSb.binds (ps := ["fence", "size", "lines", "low", "high"]) fun _ _ _ _ _ _ us hl => match us, hl with | [_, _, _, _, _], _ => rfl
  have FFd := fun_mk (st := sFd) lFd jFd kFd
  have BFd := FFd.binds (ps := ["fence", "size"]) fun _ _ _ _ _ _ us hl => match us, hl with | [_, _], _ => rfl
  have FPr := fun_mk (st := sPr) lPr jPr kPr
  have BPr := FPr.binds (ps := ["bottom", "size", "corner"]) fun _ _ _ _ _ _ us hl => match us, hl with | [_, _, _], _ => rfl
  have FBt := fun_mk (st := sBt) lBt jBt kBt
  have BBt := FBt.binds (ps := ["bottom", "size", "one", "two"]) fun _ _ _ _ _ _ us hl => match us, hl with | [_, _, _, _], _ => rfl
  have FSp := fun_mk (st := sSp) lSp jSp kSp
  have BSp := FSp.binds (ps := ["fence", "size"]) fun _ _ _ _ _ _ us hl => match us, hl with | [_, _], _ => rfl
  have FFp := fun_mk (st := sFp) lFp jFp kFp
  have BFp := FFp.binds (ps := ["fence", "size"]) fun _ _ _ _ _ _ us hl => match us, hl with | [_, _], _ => rfl
  have FFlo := fun_mk (st := sFlo) lFlo jFlo kFlo
  have BFlo := FFlo.binds (ps := ["many", "slope", "start", "step"]) fun _ _ _ _ _ _ us hl => match us, hl with | [_, _, _, _], _ => rfl
  have FRsm := fun_mk (st := sRsm) lRsm jRsm kRsm
  have BRsm := FRsm.binds (ps := ["line", "row", "many"]) fun _ _ _ _ _ _ us hl => match us, hl with | [_, _, _], _ => rfl
  have FTof := fun_mk (st := sTof) lTof jTof kTof
  have BTof := FTof.binds (ps := ["pieces"]) fun _ _ _ _ _ _ us hl => match us, hl with | [_], _ => rfl
  have FTto := fun_mk (st := sTto) lTto jTto kTto
  have BTto := FTto.binds (ps := ["pieces", "row"]) fun _ _ _ _ _ _ us hl => match us, hl with | [_, _], _ => rfl
  have FSof := fun_mk (st := sSof) lSof jSof kSof
  have BSof := FSof.binds (ps := ["pieces", "index"]) fun _ _ _ _ _ _ us hl => match us, hl with | [_, _], _ => rfl
  have FEof := fun_mk (st := sEof) lEof jEof kEof
  have BEof := FEof.binds (ps := ["pieces", "row"]) fun _ _ _ _ _ _ us hl => match us, hl with | [_, _], _ => rfl
  have FCkR := fun_mk (st := sCkR) lCkR jCkR kCkR
  have BCkR := FCkR.binds (ps := ["value"]) fun _ _ _ _ _ _ us hl => match us, hl with | [_], _ => rfl
  have FRwc := fun_mk (st := sRwc) lRwc jRwc kRwc
  have BRwc := FRwc.binds (ps := ["fence", "size", "row"]) fun _ _ _ _ _ _ us hl => match us, hl with | [_, _, _], _ => rfl
  have FBlw := fun_mk (st := sBlw) lBlw jBlw kBlw
  have BBlw := FBlw.binds (ps := ["fence", "size", "row"]) fun _ _ _ _ _ _ us hl => match us, hl with | [_, _, _], _ => rfl
  have FCnt := fun_mk (st := sCnt) lCnt jCnt kCnt
  have BCnt := FCnt.binds (ps := ["fence", "size"]) fun _ _ _ _ _ _ us hl => match us, hl with | [_, _], _ => rfl
  have FSrw := fun_mk (st := sSrw) lSrw jSrw kSrw
  have BSrw := FSrw.binds (ps := ["fence", "size"]) fun _ _ _ _ _ _ us hl => match us, hl with | [_, _], _ => rfl
  have FRst := fun_mk (st := sRst) lRst jRst kRst
  have BRst := FRst.binds (ps := ["fence", "size", "row"]) fun _ _ _ _ _ _ us hl => match us, hl with | [_, _, _], _ => rfl
  have FPool := fun_mk (st := sPool) lPool jPool kPool
  have BPool := FPool.binds (ps := ["_law_script", "_law_at"]) fun _ _ _ _ _ _ us hl => match us, hl with | [_, _], _ => rfl
  have FDrw := fun_mk (st := sDrw) lDrw jDrw kDrw
  have BDrw := FDrw.binds (ps := ["_law_pool_here", "_law_span"]) fun _ _ _ _ _ _ us hl => match us, hl with | [_, _], _ => rfl
  have FTr := fun_mk (st := sTr) lTr jTr kTr
  have BTr := FTr.binds (ps := ["_law_one", "_law_two", "_law_three"]) fun _ _ _ _ _ _ us hl => match us, hl with | [_, _, _], _ => rfl
  have FCor := fun_mk (st := sCor) lCor jCor kCor
  have BCor := FCor.binds (ps := ["_law_spots"]) fun _ _ _ _ _ _ us hl => match us, hl with | [_], _ => rfl
  have FTen := fun_mk (st := sTen) lTen jTen kTen
  have BTen := FTen.binds (ps := ["_law_pool_here", "_law_far"]) fun _ _ _ _ _ _ us hl => match us, hl with | [_, _], _ => rfl
  have FPlo := fun_mk (st := sPlo) lPlo jPlo kPlo
  have BPlo := FPlo.binds (ps := ["_law_pool_here", "_law_far", "_law_most"]) fun _ _ _ _ _ _ us hl => match us, hl with | [_, _, _], _ => rfl
  have FHas := fun_mk (st := sHas) lHas jHas kHas
  have BHas := FHas.binds (ps := ["_law_plot_here", "_law_often", "_law_spot"]) fun _ _ _ _ _ _ us hl => match us, hl with | [_, _, _], _ => rfl
  have FBox := fun_mk (st := sBox) lBox jBox kBox
  have BBox := FBox.binds (ps := ["_law_plot_here", "_law_often"]) fun _ _ _ _ _ _ us hl => match us, hl with | [_, _], _ => rfl
  have FRow := fun_mk (st := sRow) lRow jRow kRow
  have BRow := FRow.binds (ps := ["_law_plot_here", "_law_often", "_law_level"]) fun _ _ _ _ _ _ us hl => match us, hl with | [_, _, _], _ => rfl
  have FLvs := fun_mk (st := sLvs) lLvs jLvs kLvs
  have BLvs := FLvs.binds (ps := ["_law_pool_here", "_law_plot_here", "_law_often"]) fun _ _ _ _ _ _ us hl => match us, hl with | [_, _, _], _ => rfl
  have FRt := fun_mk (st := sRt) lRt jRt kRt
  have BRt := FRt.binds (ps := ["_law_pool_here", "_law_plot_here", "_law_often"]) fun _ _ _ _ _ _ us hl => match us, hl with | [_, _, _], _ => rfl
  have FEr := fun_mk (st := sEr) lEr jEr kEr
  have BEr := FEr.binds (ps := ["_law_plot_here", "_law_often"]) fun _ _ _ _ _ _ us hl => match us, hl with | [_, _], _ => rfl
  have FLw := fun_mk (st := sLw) lLw jLw kLw
  have BLw := FLw.binds (ps := ["_law_script"]) fun _ _ _ _ _ _ us hl => match us, hl with | [_], _ => rfl
  have FRunI := fun_mk (st := sRunI) lRunI jRunI kRunI
  have BRunI := FRunI.binds (ps := ["self", "start", "step", "many"]) fun _ _ _ _ _ _ us hl => match us, hl with | [_, _, _, _], _ => rfl
  have MkRun : Mk K CRun fRunI := ⟨mkRun, eRunI, iRunI, kcRun⟩
  have FRunW := fun_mk (st := sRunW) lRunW jRunW kRunW
  have BRunW := FRunW.binds (ps := ["self"]) fun _ _ _ _ _ _ us hl => match us, hl with | [_], _ => rfl
  have MRunW : Meth K CRun "whole_count" fRunW := ⟨eRunW, iRunW, kRunW⟩
  have FRunC := fun_mk (st := sRunC) lRunC jRunC kRunC
  have BRunC := FRunC.binds (ps := ["self", "row"]) fun _ _ _ _ _ _ us hl => match us, hl with | [_, _], _ => rfl
  have MRunC : Meth K CRun "count_to" fRunC := ⟨eRunC, iRunC, kRunC⟩
  have FRunS := fun_mk (st := sRunS) lRunS jRunS kRunS
  have BRunS := FRunS.binds (ps := ["self", "index"]) fun _ _ _ _ _ _ us hl => match us, hl with | [_, _], _ => rfl
  have MRunS : Meth K CRun "stake_at" fRunS := ⟨eRunS, iRunS, kRunS⟩
  have FRunE := fun_mk (st := sRunE) lRunE jRunE kRunE
  have BRunE := FRunE.binds (ps := ["self", "row"]) fun _ _ _ _ _ _ us hl => match us, hl with | [_, _], _ => rfl
  have MRunE : Meth K CRun "row_ends" fRunE := ⟨eRunE, iRunE, kRunE⟩
  have ClRun : Cls K CRun := ⟨pgRun, hdRun, poRun, saRun⟩
  have FStpI := fun_mk (st := sStpI) lStpI jStpI kStpI
  have BStpI := FStpI.binds (ps := ["self", "first", "last", "left", "right"]) fun _ _ _ _ _ _ us hl => match us, hl with | [_, _, _, _, _], _ => rfl
  have MkStp : Mk K CStp fStpI := ⟨mkStp, eStpI, iStpI, kcStp⟩
  have FStpW := fun_mk (st := sStpW) lStpW jStpW kStpW
  have BStpW := FStpW.binds (ps := ["self"]) fun _ _ _ _ _ _ us hl => match us, hl with | [_], _ => rfl
  have MStpW : Meth K CStp "whole_count" fStpW := ⟨eStpW, iStpW, kStpW⟩
  have FStpC := fun_mk (st := sStpC) lStpC jStpC kStpC
  have BStpC := FStpC.binds (ps := ["self", "row"]) fun _ _ _ _ _ _ us hl => match us, hl with | [_, _], _ => rfl
  have MStpC : Meth K CStp "count_to" fStpC := ⟨eStpC, iStpC, kStpC⟩
  have FStpS := fun_mk (st := sStpS) lStpS jStpS kStpS
  have BStpS := FStpS.binds (ps := ["self", "index"]) fun _ _ _ _ _ _ us hl => match us, hl with | [_, _], _ => rfl
  have MStpS : Meth K CStp "stake_at" fStpS := ⟨eStpS, iStpS, kStpS⟩
  have FStpE := fun_mk (st := sStpE) lStpE jStpE kStpE
  have BStpE := FStpE.binds (ps := ["self", "row"]) fun _ _ _ _ _ _ us hl => match us, hl with | [_, _], _ => rfl
  have MStpE : Meth K CStp "row_ends" fStpE := ⟨eStpE, iStpE, kStpE⟩
  have ClStp : Cls K CStp := ⟨pgStp, hdStp, poStp, saStp⟩
  have e30 : (1000000000000000000000000000000 : Int) = 10 ^ 30 := by decide
  have T : Nms mg := ⟨(n b0), (n b1), (n b2), (n b3), (n b4), (n b5), (n b6), ⟨t1, by rw [m v1, e30]⟩, ⟨t2, m v2⟩, ⟨t3, m v3⟩⟩
  have T2 : Nm2 mg := ⟨(n b7), (n b8), (n b9), (n b10), (n b11), (n b12), (n b13), (n b14), (n b15)⟩
  have mg3 : mg "gcd" = some (.builtin "math.gcd") := m v4
  have TR : RunT K CRun := ⟨ClRun, nfRun0, nfRun1, nfRun2⟩
  have TS : StripT K CStp := ⟨ClStp, nfStp0, nfStp1, nfStp2, nfStp3⟩
  refine ⟨PySem.W.fnOf "law" "law" (defArgs sLw) (defBody sLw) (defScope sLw) .none kVLw dcLw pmLw anLw cdLw ctLw, fun s v => .of_eq rfl, fun base _ _ => ?_⟩
  have oNx : FnOk P w K mg base CX0 1 fNx _ ["corners", "side"] (spNx K) := ok_nx FNx T
  have oLs : FnOk P w K mg base CX0 2 fLs _ ["corners", "side"] (spLs K) := ok_ls FLs FTurnP BTurnP (m eTurnP) FNx BNx (m eNx) T
  have oOut : FnOk P w K mg base CX0 3 fOut _ ["corners"] (spOut K) := ok_out FOut oLs FLs.kp BLs (m eLs) T T2
  have oBet : FnOk P w K mg base CX0 2 fBet _ ["value", "least", "greatest"] (spBet) := ok_bet FBet FInt BInt (m eInt) T
  have oIsP : FnOk P w K mg base CX0 2 fIsP _ ["value"] (spIsP K) := ok_isP FIsP FInt BInt (m eInt) T
  have oIsC : FnOk P w K mg base CX0 3 fIsC _ ["value"] (spIsC K) := ok_isC FIsC oIsP FIsP.kp BIsP (m eIsP) T
  have oIsB : FnOk P w K mg base CX0 3 fIsB _ ["value"] (spIsB) := ok_isB FIsB oBet FBet.kp BBet (m eBet) T
  have oCs : FnOk P w K mg base CX0 4 fCs _ ["value"] (spCs K) := ok_cs FCs oIsC FIsC.kp BIsC (m eIsC) oOut FOut.kp BOut (m eOut) T T2
  have oTot : FnOk P w K mg base CX0 1 fTot _ ["corners"] (spTot K) := ok_tot FTot T
  have oSd : FnOk P w K mg base CX0 3 fSd _ ["value", "total"] (spSd K) := ok_sd FSd oBet FBet.kp BBet (m eBet) T
  have oChB : FnOk P w K mg base CX0 4 fChB _ ["value"] (spChB) := ok_chB FChB oIsB FIsB.kp BIsB (m eIsB)
  have oChk : FnOk P w K mg base CX0 5 fChk _ ["value"] (spChk K) := ok_chk FChk T oChB FChB.kp BChB (m eChB) oCs FCs.kp BCs (m eCs) (oTot.mono (by decide)) FTot.kp BTot (m eTot) (oSd.mono (by decide)) FSd.kp BSd (m eSd)
  have oCkS : FnOk P w K mg base CX0 3 fCkS _ ["value"] (spCkS) := ok_ckS FCkS T ⟨oBet.mono (by decide), FBet.kp, BBet, m eBet⟩
  have oLea : FnOk P w K mg base CX0 1 fLea _ ["top", "bottom", "beyond"] (spLea) := ok_lea FLea
  have oGrt : FnOk P w K mg base CX0 2 fGrt _ ["top", "bottom", "beyond"] (spGrt) := ok_grt FGrt ⟨oLea.mono (by decide), FLea.kp, BLea, m eLea⟩
  have oEon : FnOk P w K mg base CX0 1 fEon _ ["least", "greatest"] (spEon K) := ok_eon FEon
  have oInv : FnOk P w K mg base CX0 1 fInv _ ["number", "modulus"] (spInv) := ok_inv FInv
  have oRea : FnOk P w K mg base CX0 1 fRea _ ["line", "row"] (spRea K) := ok_rea FRea (n b12)
  have oFl : FnOk P w K mg base CX0 2 fFl _ ["fence", "size"] (spFl K) := ok_fl FFl T mg3 ⟨oNx.mono (by decide), FNx.kp, BNx, m eNx⟩ ⟨oLea.mono (by decide), FLea.kp, BLea, m eLea⟩
  have oFr : FnOk P w K mg base CX0 2 fFr _ ["lines", "row"] (spFr K) := ok_fr FFr (n b8) (n b7) ⟨oRea.mono (by decide), FRea.kp, BRea, m eRea⟩ ⟨oEon.mono (by decide), FEon.kp, BEon, m eEon⟩
  have oRunI : FnOk P w K mg base CX0 1 fRunI _ ["self", "start", "step", "many"] (spRunI CRun) := ok_runI FRunI TR
  have oStpI : FnOk P w K mg base CX0 1 fStpI _ ["self", "first", "last", "left", "right"] (spStpI CStp) := ok_stpI FStpI TS
  have oRr : FnOk P w K mg base CX0 4 fRr _ ["lines", "row"] (spRr K CRun CStp) := ok_rr FRr TR MkRun (PySem.W.mg_of X G aCRun) (oRunI.mono (by decide)) BRunI ⟨oFr.mono (by decide), FFr.kp, BFr, m eFr⟩
  have oSb : FnOk P w K mg base CX0 4 fSb _ ["fence", "size", "lines", "low", "high"] (spSb K CRun CStp) := ok_sb FSb T TS MkStp (PySem.W.mg_of X G aCStp) (oStpI.mono (by decide)) BStpI ⟨oNx.mono (by decide), FNx.kp, BNx, m eNx⟩ ⟨oLea.mono (by decide), FLea.kp, BLea, m eLea⟩ ⟨oGrt.mono (by decide), FGrt.kp, BGrt, m eGrt⟩
  have oFd : FnOk P w K mg base CX0 5 fFd _ ["fence", "size"] (spFd K CRun CStp) := ok_fd FFd T (n b15) (n b17) ⟨oFl.mono (by decide), FFl.kp, BFl, m eFl⟩ ⟨oSb.mono (by decide), FSb.kp, BSb, m eSb⟩ ⟨oRr.mono (by decide), FRr.kp, BRr, m eRr⟩
  have oPr : FnOk P w K mg base CX0 3 fPr _ ["bottom", "size", "corner"] (spPr K CRun CStp) := ok_pr FPr MkRun (PySem.W.mg_of X G aCRun) oRunI BRunI
  have oBt : FnOk P w K mg base CX0 4 fBt _ ["bottom", "size", "one", "two"] (spBt K CRun CStp) := ok_bt FBt MkRun (PySem.W.mg_of X G aCRun) (oRunI.mono (by decide)) BRunI (n b15) (n b17) mg3 ⟨oLea.mono (by decide), FLea.kp, BLea, m eLea⟩ ⟨oGrt.mono (by decide), FGrt.kp, BGrt, m eGrt⟩ ⟨oInv.mono (by decide), FInv.kp, BInv, m eInv⟩
  have oSp : FnOk P w K mg base CX0 5 fSp _ ["fence", "size"] (spSp K CRun CStp) := ok_sp FSp T ⟨oBt.mono (by decide), FBt.kp, BBt, m eBt⟩
  have oFp : FnOk P w K mg base CX0 6 fFp _ ["fence", "size"] (spFp K CRun CStp) := ok_fp FFp T ⟨oPr.mono (by decide), FPr.kp, BPr, m ePr⟩ ⟨oSp.mono (by decide), FSp.kp, BSp, m eSp⟩ ⟨oFd.mono (by decide), FFd.kp, BFd, m eFd⟩
  have oPool : FnOk P w K mg base CX0 1 fPool _ ["_law_script", "_law_at"] (spPool K) := ok_pool FPool (n b1) (n b8) (n b12) (n b5)
  have oDrw : FnOk P w K mg base CX0 1 fDrw _ ["_law_pool_here", "_law_span"] (spDrw) := ok_drw FDrw (n b1)
  have oTr : FnOk P w K mg base CX0 1 fTr _ ["_law_one", "_law_two", "_law_three"] (spTr K) := ok_tr FTr
  have oCor : FnOk P w K mg base CX0 2 fCor _ ["_law_spots"] (spHul K) := ok_cor FCor ⟨oTr.mono (by decide), FTr.kp, BTr, m eTr⟩ (n b5) (n b15) (n b16)
  have oTen : FnOk P w K mg base CX0 2 fTen _ ["_law_pool_here", "_law_far"] (spTen K) := ok_ten FTen ⟨oDrw.mono (by decide), FDrw.kp, BDrw, m eDrw⟩
  have oPlo : FnOk P w K mg base CX0 3 fPlo _ ["_law_pool_here", "_law_far", "_law_most"] (spPlo K) := ok_plo FPlo (n b1) (n b5) (n b11) (n b4) ⟨oDrw.mono (by decide), FDrw.kp, BDrw, m eDrw⟩ ⟨oCor.mono (by decide), FCor.kp, BCor, m eCor⟩ ⟨oTen.mono (by decide), FTen.kp, BTen, m eTen⟩
  have oFlo : FnOk P w K mg base CX0 1 fFlo _ ["many", "slope", "start", "step"] (spFlo) := ok_flo FFlo (n b17)
  have oRsm : FnOk P w K mg base CX0 2 fRsm _ ["line", "row", "many"] (spRsm K) := ok_rsm FRsm (n b12) ⟨oFlo.mono (by decide), FFlo.kp, BFlo, m eFlo⟩
  have oRunW : FnOk P w K mg base CX0 1 fRunW _ ["self"] (spRunW K CRun) := ok_runW FRunW TR
  have oStpC : FnOk P w K mg base CX0 3 fStpC _ ["self", "row"] (spStpC K CStp) := ok_stpC FStpC TS (n b7) ⟨oRsm.mono (by decide), FRsm.kp, BRsm, m eRsm⟩
  have oStpW : FnOk P w K mg base CX0 4 fStpW _ ["self"] (spStpW K CStp) := ok_stpW FStpW TS oStpC MStpC BStpC
  have oTof : FnOk P w K mg base CX0 5 fTof _ ["pieces"] (spTof K CRun CStp) := ok_tof FTof (n b13) TR TS (oRunW.mono (by decide)) MRunW BRunW oStpW MStpW BStpW
  have oInt : FnOk P w K mg base CX0 1 fInt _ ["value"] (spInt) := ok_int FInt T
  have oRunS : FnOk P w K mg base CX0 1 fRunS _ ["self", "index"] (spRunS K CRun) := ok_runS FRunS TR
  have oStpE : FnOk P w K mg base CX0 2 fStpE _ ["self", "row"] (spStpE K CStp) := ok_stpE FStpE TS ⟨oRea.mono (by decide), FRea.kp, BRea, m eRea⟩ ⟨oEon.mono (by decide), FEon.kp, BEon, m eEon⟩
  have oRunE : FnOk P w K mg base CX0 2 fRunE _ ["self", "row"] (spRunE K CRun) := ok_runE FRunE TR (n b17) oRunS MRunS BRunS
  have oEof : FnOk P w K mg base CX0 3 fEof _ ["pieces", "row"] (spEof K CRun CStp) := ok_eof FEof TR TS oRunE MRunE BRunE oStpE MStpE BStpE
  have oRunC : FnOk P w K mg base CX0 1 fRunC _ ["self", "row"] (spRunC K CRun) := ok_runC FRunC TR (n b7)
  have oTto : FnOk P w K mg base CX0 4 fTto _ ["pieces", "row"] (spTto K CRun CStp) := ok_tto FTto (n b13) TR TS (oRunC.mono (by decide)) MRunC BRunC oStpC MStpC BStpC
  have oCkR : FnOk P w K mg base CX0 2 fCkR _ ["value"] (spCkR) := ok_ckR FCkR ⟨oInt.mono (by decide), FInt.kp, BInt, m eInt⟩
  have oStpS : FnOk P w K mg base CX0 4 fStpS _ ["self", "index"] (spStpS K CStp) := ok_stpS FStpS TS oStpC MStpC BStpC ⟨oRea.mono (by decide), FRea.kp, BRea, m eRea⟩
  have oSof : FnOk P w K mg base CX0 5 fSof _ ["pieces", "index"] (spSof K CRun CStp) := ok_sof FSof TR TS (oRunW.mono (by decide)) MRunW BRunW oStpW MStpW BStpW (oRunS.mono (by decide)) MRunS BRunS oStpS MStpS BStpS
  have oSrw : FnOk P w K mg base CX0 7 fSrw _ ["fence", "size"] (spSrw K) := ok_srw FSrw ⟨oChk.mono (by decide), FChk.kp, BChk, m eChk⟩ ⟨oCkS.mono (by decide), FCkS.kp, BCkS, m eCkS⟩ ⟨oTof.mono (by decide), FTof.kp, BTof, m eTof⟩ ⟨oSof.mono (by decide), FSof.kp, BSof, m eSof⟩ ⟨oFp.mono (by decide), FFp.kp, BFp, m eFp⟩
  have oRst : FnOk P w K mg base CX0 7 fRst _ ["fence", "size", "row"] (spRst K) := ok_rst FRst ⟨oChk.mono (by decide), FChk.kp, BChk, m eChk⟩ ⟨oCkS.mono (by decide), FCkS.kp, BCkS, m eCkS⟩ ⟨oCkR.mono (by decide), FCkR.kp, BCkR, m eCkR⟩ ⟨oEof.mono (by decide), FEof.kp, BEof, m eEof⟩ ⟨oFp.mono (by decide), FFp.kp, BFp, m eFp⟩
  have oRwc : FnOk P w K mg base CX0 7 fRwc _ ["fence", "size", "row"] (spRwc K) := ok_rwc FRwc ⟨oChk.mono (by decide), FChk.kp, BChk, m eChk⟩ ⟨oCkS.mono (by decide), FCkS.kp, BCkS, m eCkS⟩ ⟨oCkR.mono (by decide), FCkR.kp, BCkR, m eCkR⟩ ⟨oEof.mono (by decide), FEof.kp, BEof, m eEof⟩ ⟨oFp.mono (by decide), FFp.kp, BFp, m eFp⟩
  have oBlw : FnOk P w K mg base CX0 7 fBlw _ ["fence", "size", "row"] (spBlw K) := ok_blw FBlw ⟨oChk.mono (by decide), FChk.kp, BChk, m eChk⟩ ⟨oCkS.mono (by decide), FCkS.kp, BCkS, m eCkS⟩ ⟨oCkR.mono (by decide), FCkR.kp, BCkR, m eCkR⟩ ⟨oTto.mono (by decide), FTto.kp, BTto, m eTto⟩ ⟨oFp.mono (by decide), FFp.kp, BFp, m eFp⟩
  have oCnt : FnOk P w K mg base CX0 7 fCnt _ ["fence", "size"] (spCnt K) := ok_cnt FCnt ⟨oChk.mono (by decide), FChk.kp, BChk, m eChk⟩ ⟨oCkS.mono (by decide), FCkS.kp, BCkS, m eCkS⟩ ⟨oTof.mono (by decide), FTof.kp, BTof, m eTof⟩ ⟨oFp.mono (by decide), FFp.kp, BFp, m eFp⟩
  have oHas : FnOk P w K mg base CX0 2 fHas _ ["_law_plot_here", "_law_often", "_law_spot"] (spHas K) := ok_has FHas T ⟨oTr.mono (by decide), FTr.kp, BTr, m eTr⟩
  have oBox : FnOk P w K mg base CX0 1 fBox _ ["_law_plot_here", "_law_often"] (spBox K) := ok_box FBox (n b7) (n b8)
  have oRow : FnOk P w K mg base CX0 3 fRow _ ["_law_plot_here", "_law_often", "_law_level"] (spRow K) := ok_row FRow (n b5) (n b1) (n b7) (n b8) (n b6) ⟨oHas.mono (by decide), FHas.kp, BHas, m eHas⟩
  have oLvs : FnOk P w K mg base CX0 2 fLvs _ ["_law_pool_here", "_law_plot_here", "_law_often"] (spLvs K) := ok_lvs FLvs (n b8) (n b11) ⟨oDrw.mono (by decide), FDrw.kp, BDrw, m eDrw⟩ ⟨oBox.mono (by decide), FBox.kp, BBox, m eBox⟩
  have oRt : FnG P w K mg base CX0 8 fRt _ ["_law_pool_here", "_law_plot_here", "_law_often"] (spRt K) := ok_rt FRt (n b14) ⟨oLvs.mono (by decide), FLvs.kp, BLvs, m eLvs⟩ ⟨(oRow.mono (by decide)).imp rwo_imp, FRow.kp, BRow, m eRow⟩ ⟨(oRst.mono (by decide)).imp rso_imp, FRst.kp, BRst, m eRst⟩ ⟨(oRwc.mono (by decide)).imp rce_imp, FRwc.kp, BRwc, m eRwc⟩
  have oEr : FnOk P w K mg base CX0 8 fEr _ ["_law_plot_here", "_law_often"] (spEr K) := ok_er FEr ⟨oSrw.mono (by decide), FSrw.kp, BSrw, m eSrw⟩ ⟨oCnt.mono (by decide), FCnt.kp, BCnt, m eCnt⟩ ⟨(oRow.mono (by decide)).imp rwo_imp, FRow.kp, BRow, m eRow⟩ ⟨oBlw.mono (by decide), FBlw.kp, BBlw, m eBlw⟩
  exact ok_lw FLw (n b5) (n b11) (n b7) (n b8) (n b1) ⟨oPool.mono (by decide), FPool.kp, BPool, m ePool⟩ ⟨oPlo.mono (by decide), FPlo.kp, BPlo, m ePlo⟩ ⟨oDrw.mono (by decide), FDrw.kp, BDrw, m eDrw⟩ ⟨oRt.mono (by decide), FRt.kp, BRt, m eRt⟩ ⟨oEr.mono (by decide), FEr.kp, BEr, m eEr⟩ ⟨(oRst.mono (by decide)).imp rso_imp, FRst.kp, BRst, m eRst⟩ ⟨oSrw.mono (by decide), FSrw.kp, BSrw, m eSrw⟩
end K12
set_option Elab.async false
set_option linter.all false
set_option maxRecDepth 100000
open PySem PySem.W PyProof.Rows
set_option maxHeartbeats 0 in
theorem PySem.Challenge.cw_growfences_k12_rows_of_stakes_holds : PySem.Challenge.rw_growfences_k12_rows_of_stakes.Holds := by
  w_on; o_law; k_head; (case hw => w_witness2)
  k_fill
  refine L2.walk_ofG (l := PySem.Challenge.rw_growfences_k12_rows_of_stakes) (n := 63) (k := 10) (x := "_law_script") (sp := fun w => K12.spLw _) rfl (by decide) rfl ⟨rfl, by decide, by decide⟩ (fun w h Y => PySem.W.kIn_of Y) ?F (fun _ _ a ns hl _ hS => ⟨a, ns, rfl, hS, hl, fun _ => rfl⟩)
  case F =>
    intro w mg fa h KX G hmg
    refine' K12.top_mk KX G hmg ?v1 ?v2 ?v3 ?v4 ?b0 ?b1 ?b2 ?b3 ?b4 ?b5 ?b6 ?b7 ?b8 ?b9 ?b10 ?b11 ?b12 ?b13 ?b14 ?b15 ?b16 ?b17 ?eTurnP ?lTurnP ?jTurnP ?kTurnP ?eNx ?lNx ?jNx ?kNx ?eLs ?lLs ?jLs ?kLs ?eOut ?lOut ?jOut ?kOut ?eInt ?lInt ?jInt ?kInt ?eBet ?lBet ?jBet ?kBet ?eIsP ?lIsP ?jIsP ?kIsP ?eIsC ?lIsC ?jIsC ?kIsC ?eIsB ?lIsB ?jIsB ?kIsB ?eCs ?lCs ?jCs ?kCs ?eTot ?lTot ?jTot ?kTot ?eSd ?lSd ?jSd ?kSd ?eChB ?lChB ?jChB ?kChB ?eChk ?lChk ?jChk ?kChk ?eCkS ?lCkS ?jCkS ?kCkS ?eLea ?lLea ?jLea ?kLea ?eGrt ?lGrt ?jGrt ?kGrt ?eInv ?lInv ?jInv ?kInv ?eEon ?lEon ?jEon ?kEon ?eRea ?lRea ?jRea ?kRea ?eFl ?lFl ?jFl ?kFl ?eFr ?lFr ?jFr ?kFr ?eRr ?lRr ?jRr ?kRr ?eSb ?lSb ?jSb ?kSb ?eFd ?lFd ?jFd ?kFd ?ePr ?lPr ?jPr ?kPr ?eBt ?lBt ?jBt ?kBt ?eSp ?lSp ?jSp ?kSp ?eFp ?lFp ?jFp ?kFp ?eFlo ?lFlo ?jFlo ?kFlo ?eRsm ?lRsm ?jRsm ?kRsm ?eTof ?lTof ?jTof ?kTof ?eTto ?lTto ?jTto ?kTto ?eSof ?lSof ?jSof ?kSof ?eEof ?lEof ?jEof ?kEof ?eCkR ?lCkR ?jCkR ?kCkR ?eRwc ?lRwc ?jRwc ?kRwc ?eBlw ?lBlw ?jBlw ?kBlw ?eCnt ?lCnt ?jCnt ?kCnt ?eSrw ?lSrw ?jSrw ?kSrw ?eRst ?lRst ?jRst ?kRst ?ePool ?lPool ?jPool ?kPool ?eDrw ?lDrw ?jDrw ?kDrw ?eTr ?lTr ?jTr ?kTr ?eCor ?lCor ?jCor ?kCor ?eTen ?lTen ?jTen ?kTen ?ePlo ?lPlo ?jPlo ?kPlo ?eHas ?lHas ?jHas ?kHas ?eBox ?lBox ?jBox ?kBox ?eRow ?lRow ?jRow ?kRow ?eLvs ?lLvs ?jLvs ?kLvs ?eRt ?lRt ?jRt ?kRt ?eEr ?lEr ?jEr ?kEr ?eLw ?lLw ?jLw ?kLw ?aCRun ?eRunI ?iRunI ?lRunI ?jRunI ?kRunI ?eRunW ?iRunW ?lRunW ?jRunW ?kRunW ?eRunC ?iRunC ?lRunC ?jRunC ?kRunC ?eRunS ?iRunS ?lRunS ?jRunS ?kRunS ?eRunE ?iRunE ?lRunE ?jRunE ?kRunE ?pgRun ?hdRun ?poRun ?saRun ?mkRun ?kcRun ?nfRun0 ?nfRun1 ?nfRun2 ?aCStp ?eStpI ?iStpI ?lStpI ?jStpI ?kStpI ?eStpW ?iStpW ?lStpW ?jStpW ?kStpW ?eStpC ?iStpC ?lStpC ?jStpC ?kStpC ?eStpS ?iStpS ?lStpS ?jStpS ?kStpS ?eStpE ?iStpE ?lStpE ?jStpE ?kStpE ?pgStp ?hdStp ?poStp ?saStp ?mkStp ?kcStp ?nfStp0 ?nfStp1 ?nfStp2 ?nfStp3
    (case v1 => k_is)
    (case v2 => k_is)
    (case v3 => k_is)
    (case v4 => k_is)
    (case b0 => k_is)
    (case b1 => k_is)
    (case b2 => k_is)
    (case b3 => k_is)
    (case b4 => k_is)
    (case b5 => k_is)
    (case b6 => k_is)
    (case b7 => k_is)
    (case b8 => k_is)
    (case b9 => k_is)
    (case b10 => k_is)
    (case b11 => k_is)
    (case b12 => k_is)
    (case b13 => k_is)
    (case b14 => k_is)
    (case b15 => k_is)
    (case b16 => k_is)
    (case b17 => k_is)
    (case eTurnP => k_is)
    (case lTurnP => k_is)
    (case jTurnP => k_is)
    (case kTurnP => k_is)
    (case eNx => k_is)
    (case lNx => k_is)
    (case jNx => k_is)
    (case kNx => k_is)
    (case eLs => k_is)
    (case lLs => k_is)
    (case jLs => k_is)
    (case kLs => k_is)
    (case eOut => k_is)
    (case lOut => k_is)
    (case jOut => k_is)
    (case kOut => k_is)
    (case eInt => k_is)
    (case lInt => k_is)
    (case jInt => k_is)
    (case kInt => k_is)
    (case eBet => k_is)
    (case lBet => k_is)
    (case jBet => k_is)
    (case kBet => k_is)
    (case eIsP => k_is)
    (case lIsP => k_is)
    (case jIsP => k_is)
    (case kIsP => k_is)
    (case eIsC => k_is)
    (case lIsC => k_is)
    (case jIsC => k_is)
    (case kIsC => k_is)
    (case eIsB => k_is)
    (case lIsB => k_is)
    (case jIsB => k_is)
    (case kIsB => k_is)
    (case eCs => k_is)
    (case lCs => k_is)
    (case jCs => k_is)
    (case kCs => k_is)
    (case eTot => k_is)
    (case lTot => k_is)
    (case jTot => k_is)
    (case kTot => k_is)
    (case eSd => k_is)
    (case lSd => k_is)
    (case jSd => k_is)
    (case kSd => k_is)
    (case eChB => k_is)
    (case lChB => k_is)
    (case jChB => k_is)
    (case kChB => k_is)
    (case eChk => k_is)
    (case lChk => k_is)
    (case jChk => k_is)
    (case kChk => k_is)
    (case eCkS => k_is)
    (case lCkS => k_is)
    (case jCkS => k_is)
    (case kCkS => k_is)
    (case eLea => k_is)
    (case lLea => k_is)
    (case jLea => k_is)
    (case kLea => k_is)
    (case eGrt => k_is)
    (case lGrt => k_is)
    (case jGrt => k_is)
    (case kGrt => k_is)
    (case eInv => k_is)
    (case lInv => k_is)
    (case jInv => k_is)
    (case kInv => k_is)
    (case eEon => k_is)
    (case lEon => k_is)
    (case jEon => k_is)
    (case kEon => k_is)
    (case eRea => k_is)
    (case lRea => k_is)
    (case jRea => k_is)
    (case kRea => k_is)
    (case eFl => k_is)
    (case lFl => k_is)
    (case jFl => k_is)
    (case kFl => k_is)
    (case eFr => k_is)
    (case lFr => k_is)
    (case jFr => k_is)
    (case kFr => k_is)
    (case eRr => k_is)
    (case lRr => k_is)
    (case jRr => k_is)
    (case kRr => k_is)
    (case eSb => k_is)
    (case lSb => k_is)
    (case jSb => k_is)
    (case kSb => k_is)
    (case eFd => k_is)
    (case lFd => k_is)
    (case jFd => k_is)
    (case kFd => k_is)
    (case ePr => k_is)
    (case lPr => k_is)
    (case jPr => k_is)
    (case kPr => k_is)
    (case eBt => k_is)
    (case lBt => k_is)
    (case jBt => k_is)
    (case kBt => k_is)
    (case eSp => k_is)
    (case lSp => k_is)
    (case jSp => k_is)
    (case kSp => k_is)
    (case eFp => k_is)
    (case lFp => k_is)
    (case jFp => k_is)
    (case kFp => k_is)
    (case eFlo => k_is)
    (case lFlo => k_is)
    (case jFlo => k_is)
    (case kFlo => k_is)
    (case eRsm => k_is)
    (case lRsm => k_is)
    (case jRsm => k_is)
    (case kRsm => k_is)
    (case eTof => k_is)
    (case lTof => k_is)
    (case jTof => k_is)
    (case kTof => k_is)
    (case eTto => k_is)
    (case lTto => k_is)
    (case jTto => k_is)
    (case kTto => k_is)
    (case eSof => k_is)
    (case lSof => k_is)
    (case jSof => k_is)
    (case kSof => k_is)
    (case eEof => k_is)
    (case lEof => k_is)
    (case jEof => k_is)
    (case kEof => k_is)
    (case eCkR => k_is)
    (case lCkR => k_is)
    (case jCkR => k_is)
    (case kCkR => k_is)
    (case eRwc => k_is)
    (case lRwc => k_is)
    (case jRwc => k_is)
    (case kRwc => k_is)
    (case eBlw => k_is)
    (case lBlw => k_is)
    (case jBlw => k_is)
    (case kBlw => k_is)
    (case eCnt => k_is)
    (case lCnt => k_is)
    (case jCnt => k_is)
    (case kCnt => k_is)
    (case eSrw => k_is)
    (case lSrw => k_is)
    (case jSrw => k_is)
    (case kSrw => k_is)
    (case eRst => k_is)
    (case lRst => k_is)
    (case jRst => k_is)
    (case kRst => k_is)
    (case ePool => k_is)
    (case lPool => k_is)
    (case jPool => k_is)
    (case kPool => k_is)
    (case eDrw => k_is)
    (case lDrw => k_is)
    (case jDrw => k_is)
    (case kDrw => k_is)
    (case eTr => k_is)
    (case lTr => k_is)
    (case jTr => k_is)
    (case kTr => k_is)
    (case eCor => k_is)
    (case lCor => k_is)
    (case jCor => k_is)
    (case kCor => k_is)
    (case eTen => k_is)
    (case lTen => k_is)
    (case jTen => k_is)
    (case kTen => k_is)
    (case ePlo => k_is)
    (case lPlo => k_is)
    (case jPlo => k_is)
    (case kPlo => k_is)
    (case eHas => k_is)
    (case lHas => k_is)
    (case jHas => k_is)
    (case kHas => k_is)
    (case eBox => k_is)
    (case lBox => k_is)
    (case jBox => k_is)
    (case kBox => k_is)
    (case eRow => k_is)
    (case lRow => k_is)
    (case jRow => k_is)
    (case kRow => k_is)
    (case eLvs => k_is)
    (case lLvs => k_is)
    (case jLvs => k_is)
    (case kLvs => k_is)
    (case eRt => k_is)
    (case lRt => k_is)
    (case jRt => k_is)
    (case kRt => k_is)
    (case eEr => k_is)
    (case lEr => k_is)
    (case jEr => k_is)
    (case kEr => k_is)
    (case eLw => k_is)
    (case lLw => k_is)
    (case jLw => k_is)
    (case kLw => k_is)
    (case aCRun => k_is)
    (case eRunI => k_is)
    (case iRunI => k_is)
    (case lRunI => k_is)
    (case jRunI => k_is)
    (case kRunI => k_is)
    (case eRunW => k_is)
    (case iRunW => k_is)
    (case lRunW => k_is)
    (case jRunW => k_is)
    (case kRunW => k_is)
    (case eRunC => k_is)
    (case iRunC => k_is)
    (case lRunC => k_is)
    (case jRunC => k_is)
    (case kRunC => k_is)
    (case eRunS => k_is)
    (case iRunS => k_is)
    (case lRunS => k_is)
    (case jRunS => k_is)
    (case kRunS => k_is)
    (case eRunE => k_is)
    (case iRunE => k_is)
    (case lRunE => k_is)
    (case jRunE => k_is)
    (case kRunE => k_is)
    (case pgRun => k_is)
    (case hdRun => k_is)
    (case poRun => k_is)
    (case saRun => k_is)
    (case mkRun => k_is)
    (case kcRun => k_is)
    (case nfRun0 => k_is)
    (case nfRun1 => k_is)
    (case nfRun2 => k_is)
    (case aCStp => k_is)
    (case eStpI => k_is)
    (case iStpI => k_is)
    (case lStpI => k_is)
    (case jStpI => k_is)
    (case kStpI => k_is)
    (case eStpW => k_is)
    (case iStpW => k_is)
    (case lStpW => k_is)
    (case jStpW => k_is)
    (case kStpW => k_is)
    (case eStpC => k_is)
    (case iStpC => k_is)
    (case lStpC => k_is)
    (case jStpC => k_is)
    (case kStpC => k_is)
    (case eStpS => k_is)
    (case iStpS => k_is)
    (case lStpS => k_is)
    (case jStpS => k_is)
    (case kStpS => k_is)
    (case eStpE => k_is)
    (case iStpE => k_is)
    (case lStpE => k_is)
    (case jStpE => k_is)
    (case kStpE => k_is)
    (case pgStp => k_is)
    (case hdStp => k_is)
    (case poStp => k_is)
    (case saStp => k_is)
    (case mkStp => k_is)
    (case kcStp => k_is)
    (case nfStp0 => k_is)
    (case nfStp1 => k_is)
    (case nfStp2 => k_is)
    (case nfStp3 => k_is)
