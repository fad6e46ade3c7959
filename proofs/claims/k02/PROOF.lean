import PyProof.Rows.All
import Wide.All
import OpenK.AllK
import Wide.FinOn
import HandS.ForExc
import HandS.ExcInit
import HandS.ExcIs
import HandS.ExcValue
import HandS.IsInst
import PyProof.ReprRoads
import HandS.ForMost
import HandS.Wide
import HandS.OwnEq
import HandS.Style
import HandS.Exc
import HandS.ExcOwn
import HandS.TryOnly
import HandS.Words
import HandS.Walk
import HandS.WordsExc
import HandS.TupSets
import HandS.SortRule
import HandS.TupLe
import KE.GoesNew
import KE.GoesEnum
import HandS.Iter
import PyProof.ReprLen
import HandS.Deep
import PySem.Challenge.RW_growfences_k02_around_points
set_option Elab.async false
set_option linter.all false
/-! the plane: cross products, the order by x and then y, a chain that turns left -/
namespace Hull
abbrev P := Int × Int
/-- the cross product of b - a and c - a -/
def turn (a b c : P) : Int := (b.1 - a.1) * (c.2 - a.2) - (b.2 - a.2) * (c.1 - a.1)
def Lt (a b : P) : Prop := a.1 < b.1 ∨ (a.1 = b.1 ∧ a.2 < b.2)
instance (a b : P) : Decidable (Lt a b) := by unfold Lt; exact inferInstance
theorem Lt.irrefl {a : P} (h : Lt a a) : False := by unfold Lt at h; omega
theorem Lt.trans {a b c : P} (h : Lt a b) (g : Lt b c) : Lt a c := by unfold Lt at *; omega
theorem Lt.ne {a b : P} (h : Lt a b) : a ≠ b := fun e => by subst e; exact h.irrefl
theorem Lt.asymm {a b : P} (h : Lt a b) (g : Lt b a) : False := (h.trans g).irrefl
theorem Lt.total (a b : P) : Lt a b ∨ a = b ∨ Lt b a := by
  unfold Lt
  by_cases h : a.1 < b.1
  · exact .inl (.inl h)
  · by_cases h2 : b.1 < a.1
    · exact .inr (.inr (.inl h2))
    · have e : a.1 = b.1 := by omega
      by_cases g : a.2 < b.2
      · exact .inl (.inr ⟨e, g⟩)
      · by_cases g2 : b.2 < a.2
        · exact .inr (.inr (.inr ⟨e.symm, g2⟩))
        · exact .inr (.inl (Prod.ext e (by omega)))
/-- vectors -/
def X (u v : P) : Int := u.1 * v.2 - u.2 * v.1
def Pos (u : P) : Prop := 0 < u.1 ∨ (u.1 = 0 ∧ 0 < u.2)
def sub (b a : P) : P := (b.1 - a.1, b.2 - a.2)
theorem pos_sub {a b : P} : Pos (sub b a) ↔ Lt a b := by unfold Pos sub Lt; constructor <;> intro h <;> dsimp only at * <;> omega
theorem turn_eq (a b c : P) : turn a b c = X (sub b a) (sub c a) := rfl
theorem X_id1 (u v w : P) : v.1 * X u w = u.1 * X v w + w.1 * X u v := by
  unfold X
  grind
/-- three vectors of the right half of the plane -/
theorem X_trans {u v w : P} (hu : Pos u) (hv : Pos v) (hw : Pos w) (h1 : 0 ≤ X u v) (h2 : 0 ≤ X v w) : 0 ≤ X u w := by
  rcases hv with hv | ⟨hv, hv2⟩
  · have u0 : 0 ≤ u.1 := by unfold Pos at hu; omega
    have w0 : 0 ≤ w.1 := by unfold Pos at hw; omega
    have e := X_id1 u v w
    have a1 := Int.mul_nonneg u0 h2
    have a2 := Int.mul_nonneg w0 h1
    refine Int.not_lt.mp fun z => ?_
    have z2 : v.1 * X u w < 0 := Int.mul_neg_of_pos_of_neg hv z
    omega
  · have h3 : 0 ≤ - (v.2 * w.1) := by
      unfold X at h2
      rw [hv, Int.zero_mul] at h2
      omega
    have w1 : w.1 = 0 := by
      have w0 : 0 ≤ w.1 := by unfold Pos at hw; omega
      refine Int.le_antisymm (Int.not_lt.mp fun z => ?_) w0
      have := Int.mul_pos hv2 z
      omega
    have w2 : 0 < w.2 := by unfold Pos at hw; omega
    have u0 : 0 ≤ u.1 := by unfold Pos at hu; omega
    unfold X
    rw [w1, Int.mul_zero, Int.sub_zero]
    exact Int.mul_nonneg u0 (Int.le_of_lt w2)
theorem X_trans_lt {u v w : P} (hu : Pos u) (hv : Pos v) (hw : Pos w) (h1 : 0 < X u v) (h2 : 0 < X v w) : 0 < X u w := by
  rcases hv with hv | ⟨hv, hv2⟩
  · have w0 : 0 ≤ w.1 := by unfold Pos at hw; omega
    have u0 : 0 < u.1 := by
      rcases hu with hu | ⟨hu, hu2⟩
      · exact hu
      · exfalso
        unfold X at h1
        rw [hu, Int.zero_mul] at h1
        have := Int.mul_pos hu2 hv
        omega
    have e := X_id1 u v w
    have a1 := Int.mul_pos u0 h2
    have a2 := Int.mul_nonneg w0 (Int.le_of_lt h1)
    refine Int.not_le.mp fun z => ?_
    have z2 : v.1 * X u w ≤ v.1 * 0 := Int.mul_le_mul_of_nonneg_left z (Int.le_of_lt hv)
    omega
  · exfalso
    unfold X at h2
    rw [hv, Int.zero_mul] at h2
    have w0 : 0 ≤ w.1 := by unfold Pos at hw; omega
    have := Int.mul_nonneg (Int.le_of_lt hv2) w0
    omega
/-! algebra of turns -/
theorem turn_cyc (a b c : P) : turn a b c = turn b c a := by unfold turn; grind
theorem turn_swap (a b c : P) : turn a b c = - turn b a c := by unfold turn; grind
theorem turn_aab (a b : P) : turn a a b = 0 := by simp [turn]
theorem turn_aba (a b : P) : turn a b a = 0 := by simp [turn]
theorem turn_abb (a b : P) : turn a b b = 0 := by unfold turn; rw [Int.mul_comm]; omega
/-- turn a b c by the directions a to b, b to c -/
theorem turn_dir (a b c : P) : turn a b c = X (sub b a) (sub c b) := by
  unfold turn X sub
  grind
end Hull

namespace Hull
/-! the chain, its top first -/
def pop (r : P) : List P → List P
  | b :: a :: rest => if turn a b r ≤ 0 then pop r (a :: rest) else b :: a :: rest
  | st => st
def push (st : List P) (r : P) : List P := r :: pop r st
def half (ps : List P) : List P := ps.foldl push []
/-- over each edge, from a to b in b :: a :: .. -/
def Edges (Q : P → P → Prop) : List P → Prop
  | b :: a :: rest => Q a b ∧ Edges Q (a :: rest)
  | _ => True
theorem Edges.imp {Q R : P → P → Prop} (h : ∀ a b, Q a b → R a b) : ∀ {l : List P}, Edges Q l → Edges R l
  | [], _ => trivial
  | [_], _ => trivial
  | b :: a :: rest, e => ⟨h _ _ e.1, Edges.imp h e.2⟩
theorem Edges.both {Q R : P → P → Prop} : ∀ {l : List P}, Edges Q l → Edges R l → Edges (fun a b => Q a b ∧ R a b) l
  | [], _, _ => trivial
  | [_], _, _ => trivial
  | b :: a :: rest, e, f => ⟨⟨e.1, f.1⟩, Edges.both e.2 f.2⟩
/-- each edge goes up in the order, and each one turns left of all before it -/
def Conv : List P → Prop
  | b :: a :: rest => Lt a b ∧ Edges (fun p q => 0 < X (sub q p) (sub b a)) (a :: rest) ∧ Conv (a :: rest)
  | _ => True
theorem Conv.up : ∀ {l : List P}, Conv l → Edges Lt l
  | [], _ => trivial
  | [_], _ => trivial
  | b :: a :: rest, c => ⟨c.1, Conv.up c.2.2⟩
/-- all points of S lie on the left of each edge -/
abbrev Left (S : List P) (l : List P) : Prop := Edges (fun p q => ∀ s ∈ S, 0 ≤ turn p q s) l
theorem turn_add (p q e r : P) : turn p q r = turn p q e + X (sub q p) (sub r e) := by unfold turn X sub; grind
structure Inv (S : List P) (m b : P) (st : List P) : Prop where
  conv : Conv st
  left : Left S st
  mem : ∀ e ∈ st, e ∈ S
  bot : st.getLast? = some m
  top : st.head? = some b
theorem pop_inv {S : List P} {m r : P} : ∀ {st : List P} {b : P}, Inv S m b st → (∀ e ∈ st, Lt e r) → (∀ s ∈ S, Lt b s → 0 ≤ turn b r s) →
    ∃ e, Inv S m e (pop r st) ∧ (∀ s ∈ S, Lt e s → 0 ≤ turn e r s) ∧ (∀ a rest, pop r st = e :: a :: rest → 0 < turn a e r) ∧ ∀ x ∈ pop r st, x ∈ st
  | [], b, I, _, _ => by
    have := I.top
    cases this
  | [x], b, I, hr, ht => by
    have e : x = b := Option.some.inj I.top
    subst e
    exact ⟨x, I, ht, fun a rest h => by simp [pop] at h, fun y hy => hy⟩
  | b' :: a :: rest, b, I, hr, ht => by
    have e : b' = b := Option.some.inj I.top
    subst e
    by_cases h : turn a b' r ≤ 0
    · have ep : pop r (b' :: a :: rest) = pop r (a :: rest) := by simp [pop, h]
      have J : Inv S m a (a :: rest) := ⟨I.conv.2.2, I.left.2, fun e he => I.mem e (List.mem_cons_of_mem _ he), by have := I.bot; simpa using this, rfl⟩
      have ta : ∀ s ∈ S, Lt a s → 0 ≤ turn a r s := fun s hs hl => by
        have h1 : Pos (sub r a) := pos_sub.mpr (hr a (by simp))
        have h2 : Pos (sub b' a) := pos_sub.mpr I.conv.1
        have h3 : Pos (sub s a) := pos_sub.mpr hl
        have k1 : 0 ≤ X (sub r a) (sub b' a) := by
          have : turn a b' r = X (sub b' a) (sub r a) := rfl
          have e2 : X (sub r a) (sub b' a) = - X (sub b' a) (sub r a) := by unfold X; grind
          omega
        have k2 : 0 ≤ X (sub b' a) (sub s a) := I.left.1 s hs
        exact X_trans h1 h2 h3 k1 k2
      obtain ⟨e, K1, K2, K3, K4⟩ := pop_inv J (fun e he => hr e (List.mem_cons_of_mem _ he)) ta
      rw [ep]
      exact ⟨e, K1, K2, K3, fun x hx => List.mem_cons_of_mem _ (K4 x hx)⟩
    · have ep : pop r (b' :: a :: rest) = b' :: a :: rest := by simp [pop, h]
      rw [ep]
      refine ⟨b', I, ht, fun a' rest' q => ?_, fun x hx => hx⟩
      cases q
      omega
theorem push_inv {S : List P} {m b r : P} {st : List P} (I : Inv S m b st) (hr : ∀ s ∈ S, Lt s r) (hb : ∀ s ∈ S, ¬ Lt b s) (hm : ∀ s ∈ S, ¬ Lt s m) : Inv (r :: S) m r (push st r) := by
  obtain ⟨e, J, t, ex, sub'⟩ := pop_inv I (fun e he => hr e (I.mem e he)) (fun s hs hl => absurd hl (hb s hs))
  have heS : e ∈ S := by
    have h := J.top
    cases q : pop r st with
    | nil => rw [q] at h; cases h
    | cons x l =>
      rw [q] at h
      have : x = e := Option.some.inj h
      subst this
      exact J.mem x (by rw [q]; simp)
  have her := hr e heS
  show Inv (r :: S) m r (r :: pop r st)
  cases q : pop r st with
  | nil =>
    have h := J.top
    rw [q] at h
    cases h
  | cons x l =>
    rw [q] at J ex
    have xe : x = e := Option.some.inj J.top
    subst xe
    -- each edge so far against the new one
    have dirs : Edges (fun p q => 0 < X (sub q p) (sub r x)) (x :: l) := by
      cases l with
      | nil => trivial
      | cons a rest =>
        have g : 0 < X (sub x a) (sub r x) := by
          rw [← turn_dir]
          exact ex a rest rfl
        refine ⟨g, ?_⟩
        have up := J.conv.2.2.up
        exact Edges.imp (fun p q h => X_trans_lt (pos_sub.mpr h.2) (pos_sub.mpr J.conv.1) (pos_sub.mpr her) h.1 g) (Edges.both J.conv.2.1 up)
    refine ⟨⟨her, dirs, J.conv⟩, ⟨fun s hs => ?_, ?_⟩, fun y hy => ?_, ?_, rfl⟩
    · -- the new edge
      rcases List.mem_cons.mp hs with rfl | hs
      · rw [turn_abb]
        exact Int.le_refl _
      · rcases Lt.total x s with h | h | h
        · exact t s hs h
        · rw [← h, turn_aba]
          exact Int.le_refl _
        · cases l with
          | nil =>
            have : x = m := Option.some.inj J.bot
            subst this
            exact absurd h (hm s hs)
          | cons a rest =>
            have g : 0 < X (sub x a) (sub r x) := by
              rw [← turn_dir]
              exact ex a rest rfl
            have g2 : 0 ≤ turn a x s := J.left.1 s hs
            have k1 : 0 ≤ X (sub x s) (sub x a) := by
              have : X (sub x s) (sub x a) = turn a x s := by unfold X sub turn; grind
              omega
            have k := X_trans (pos_sub.mpr h) (pos_sub.mpr J.conv.1) (pos_sub.mpr her) k1 (Int.le_of_lt g)
            have : turn x r s = X (sub x s) (sub r x) := by unfold X sub turn; grind
            omega
    · -- the old edges
      refine Edges.imp (fun p q' h => ?_) (Edges.both J.left dirs)
      intro s hs
      rcases List.mem_cons.mp hs with rfl | hs
      · rw [turn_add p q' x s]
        have := h.1 x heS
        omega
      · exact h.1 s hs
    · rcases List.mem_cons.mp hy with rfl | hy
      · exact List.mem_cons_self
      · exact List.mem_cons_of_mem _ (J.mem y hy)
    · have := J.bot
      simp only [List.getLast?_cons_cons]
      exact this
end Hull

namespace Hull
/-! the whole lower chain -/
structure Chain (S : List P) (m M : P) (st : List P) : Prop extends Inv S m M st where
  least : ∀ s ∈ S, ¬ Lt s m
  most : ∀ s ∈ S, ¬ Lt M s
theorem fold_chain {m : P} : ∀ (rest : List P) {S st : List P} {b : P}, Chain S m b st → m ∈ S → (∀ s ∈ S, ∀ x ∈ rest, Lt s x) → rest.Pairwise Lt →
    ∃ S' b', Chain S' m b' (rest.foldl push st) ∧ (∀ x, x ∈ S' ↔ x ∈ S ∨ x ∈ rest)
  | [], S, st, b, C, _, _, _ => ⟨S, b, C, fun x => by simp⟩
  | r :: rest, S, st, b, C, hm, h, hp => by
    have hr : ∀ s ∈ S, Lt s r := fun s hs => h s hs r (by simp)
    have J := push_inv C.toInv hr C.most C.least
    have D : Chain (r :: S) m r (push st r) := ⟨J, fun s hs => by
      rcases List.mem_cons.mp hs with rfl | hs
      · exact fun z => (z.trans (hr m hm)).irrefl
      · exact C.least s hs, fun s hs => by
      rcases List.mem_cons.mp hs with rfl | hs
      · exact fun z => z.irrefl
      · exact fun z => (z.trans (hr s hs)).irrefl⟩
    obtain ⟨S', b', K, K2⟩ := fold_chain rest D (List.mem_cons_of_mem _ hm) (fun s hs x hx => by
      rcases List.mem_cons.mp hs with rfl | hs
      · exact (List.pairwise_cons.mp hp).1 x hx
      · exact h s hs x (List.mem_cons_of_mem _ hx)) (List.pairwise_cons.mp hp).2
    refine ⟨S', b', K, fun x => ?_⟩
    rw [K2]
    simp only [List.mem_cons]
    constructor
    · rintro ((h | h) | h)
      · exact .inr (.inl h)
      · exact .inl h
      · exact .inr (.inr h)
    · rintro (h | h | h)
      · exact .inl (.inr h)
      · exact .inl (.inl h)
      · exact .inr h
theorem half_chain {m : P} {rest : List P} (h : (m :: rest).Pairwise Lt) : ∃ S M, Chain S m M (half (m :: rest)) ∧ ∀ x, x ∈ S ↔ x ∈ m :: rest := by
  have C0 : Chain [m] m m [m] := ⟨⟨trivial, trivial, fun e he => he, rfl, rfl⟩, fun s hs => by rw [List.mem_singleton.mp hs]; exact fun z => z.irrefl, fun s hs => by rw [List.mem_singleton.mp hs]; exact fun z => z.irrefl⟩
  obtain ⟨S, M, C, e⟩ := fold_chain rest C0 (by simp) (fun s hs x hx => by rw [List.mem_singleton.mp hs]; exact (List.pairwise_cons.mp h).1 x hx) (List.pairwise_cons.mp h).2
  refine ⟨S, M, C, fun x => ?_⟩
  rw [e]
  simp
/-! turned about -/
def neg (p : P) : P := (-p.1, -p.2)
theorem neg_neg (p : P) : neg (neg p) = p := by unfold neg; simp
theorem neg_inj {p q : P} (h : neg p = neg q) : p = q := by rw [← neg_neg p, h, neg_neg]
theorem lt_neg {a b : P} : Lt (neg b) (neg a) ↔ Lt a b := by unfold Lt neg; dsimp only; omega
theorem turn_neg (a b c : P) : turn (neg a) (neg b) (neg c) = turn a b c := by unfold turn neg; grind
theorem pop_neg (r : P) : ∀ st : List P, pop (neg r) (st.map neg) = (pop r st).map neg
  | [] => rfl
  | [_] => rfl
  | b :: a :: rest => by
    have ih := pop_neg r (a :: rest)
    simp only [List.map_cons] at ih ⊢
    unfold pop
    rw [turn_neg]
    split
    · exact ih
    · rfl
theorem half_neg (ps : List P) : half (ps.map neg) = (half ps).map neg := by
  have h : ∀ (l : List P) (st : List P), (l.map neg).foldl push (st.map neg) = (l.foldl push st).map neg := by
    intro l
    induction l with
    | nil => intro st; rfl
    | cons r l ih =>
      intro st
      show (l.map neg).foldl push (push (st.map neg) (neg r)) = (l.foldl push (push st r)).map neg
      have e : push (st.map neg) (neg r) = (push st r).map neg := by
        unfold push
        rw [pop_neg]
        rfl
      rw [e, ih]
  exact h ps []
/-! edges by places -/
theorem Edges.at {Q : P → P → Prop} : ∀ {pre : List P} {b a : P} {post : List P}, Edges Q (pre ++ b :: a :: post) → Q a b
  | [], _, _, _, h => h.1
  | [x], _, _, _, h => Edges.at (pre := []) h.2
  | x :: y :: pre, _, _, _, h => Edges.at (pre := y :: pre) h.2
theorem Conv.at : ∀ {pre : List P} {c b a : P} {post : List P}, Conv (pre ++ c :: b :: a :: post) → 0 < X (sub b a) (sub c b)
  | [], _, _, _, _, h => h.2.1.1
  | [x], _, _, _, _, h => Conv.at (pre := []) h.2.2
  | x :: y :: pre, _, _, _, _, h => Conv.at (pre := y :: pre) h.2.2
theorem Conv.down : ∀ {l : List P}, Conv l → l.Pairwise fun x y => Lt y x
  | [], _ => .nil
  | [_], _ => List.pairwise_singleton _ _
  | b :: a :: rest, c => by
    have ih := Conv.down c.2.2
    refine List.pairwise_cons.mpr ⟨fun y hy => ?_, ih⟩
    rcases List.mem_cons.mp hy with rfl | hy
    · exact c.1
    · exact ((List.pairwise_cons.mp ih).1 y hy).trans c.1
theorem last_cases (l : List P) : l = [] ∨ ∃ l' x, l = l' ++ [x] := by
  cases h : l.reverse with
  | nil => exact .inl (List.reverse_eq_nil_iff.mp h)
  | cons x r => exact .inr ⟨r.reverse, x, by rw [← List.reverse_reverse l, h]; simp⟩
/-! no third corner lies on the line of an edge -/
theorem strict {S T : List P} {m M : P} {L V : List P} (C : Chain S m M L) (D : Chain T (neg M) (neg m) V) (hT : ∀ x, x ∈ T ↔ neg x ∈ S) {pre post : List P} {p q c : P} (hL : L = pre ++ q :: p :: post) (hc : c ∈ L ∨ neg c ∈ V) (cp : c ≠ p) (cq : c ≠ q) : 0 < turn p q c := by
  have inS : ∀ x ∈ L, x ∈ S := C.mem
  have inT : ∀ x, neg x ∈ V → x ∈ S := fun x hx => by
    have := (hT (neg x)).mp (D.mem _ hx)
    rwa [neg_neg] at this
  have cS : c ∈ S := hc.elim (inS c) (inT c)
  have pS : p ∈ S := inS p (by rw [hL]; simp)
  have qS : q ∈ S := inS q (by rw [hL]; simp)
  have ge : 0 ≤ turn p q c := (Edges.at (by rw [← hL]; exact C.left) : ∀ s ∈ S, 0 ≤ turn p q s) c cS
  have pq : Lt p q := (Edges.at (by rw [← hL]; exact C.conv.up) : Lt p q)
  have srt := C.conv.down
  rcases Int.lt_or_eq_of_le ge with z | z
  · exact z
  exfalso
  have z0 : X (sub q p) (sub c p) = 0 := z.symm
  rcases Lt.total q c with h | h | h
  · -- beyond q
    have qM : q ≠ M := fun e => C.most c cS (e ▸ h)
    rcases last_cases pre with rfl | ⟨pre, q', rfl⟩
    · have := C.top
      rw [hL] at this
      exact qM (Option.some.inj this)
    · have hL' : L = pre ++ q' :: q :: p :: post := by rw [hL]; simp
      have k1 : 0 < X (sub q p) (sub q' q) := Conv.at (by rw [← hL']; exact C.conv)
      have k2 : 0 ≤ turn q q' c := (Edges.at (by rw [← hL']; exact C.left) : ∀ s ∈ S, 0 ≤ turn q q' s) c cS
      have qq' : Lt q q' := (Edges.at (by rw [← hL']; exact C.conv.up) : Lt q q')
      have k3 : 0 ≤ X (sub c q) (sub q p) := by
        have : X (sub c q) (sub q p) = - X (sub q p) (sub c p) := by unfold X sub; grind
        omega
      have k4 := X_trans (pos_sub.mpr qq') (pos_sub.mpr h) (pos_sub.mpr pq) k2 k3
      have : X (sub q' q) (sub q p) = - X (sub q p) (sub q' q) := by unfold X; grind
      omega
  · exact cq h.symm
  · rcases Lt.total c p with g | g | g
    · -- ahead of p
      have pm : p ≠ m := fun e => C.least c cS (e ▸ g)
      cases post with
      | nil =>
        have := C.bot
        rw [hL] at this
        simp at this
        exact pm this
      | cons p' post =>
        have hL' : L = (pre ++ [q]) ++ p :: p' :: post := by rw [hL]; simp
        have k1 : 0 < X (sub p p') (sub q p) := Conv.at (by rw [← hL]; exact C.conv)
        have k2 : 0 ≤ turn p' p c := (Edges.at (by rw [← hL']; exact C.left) : ∀ s ∈ S, 0 ≤ turn p' p s) c cS
        have pp' : Lt p' p := (Edges.at (by rw [← hL']; exact C.conv.up) : Lt p' p)
        have k3 : 0 ≤ X (sub p c) (sub p p') := by
          have : X (sub p c) (sub p p') = turn p' p c := by unfold X sub turn; grind
          omega
        have k4 : 0 ≤ X (sub q p) (sub p c) := by
          have : X (sub q p) (sub p c) = - X (sub q p) (sub c p) := by unfold X sub; grind
          omega
        have k5 := X_trans (pos_sub.mpr pq) (pos_sub.mpr g) (pos_sub.mpr pp') k4 k3
        have : X (sub q p) (sub p p') = - X (sub p p') (sub q p) := by unfold X; grind
        omega
    · exact cp g
    · -- between: not of the lower chain, so within the upper one
      have nL : c ∉ L := fun hcL => by
        rw [hL] at hcL srt
        rw [List.pairwise_append] at srt
        obtain ⟨_, s2, s3⟩ := srt
        rcases List.mem_append.mp hcL with x | x
        · exact (s3 c x q (by simp)).asymm h
        · rcases List.mem_cons.mp x with x | x
          · exact cq x
          · rcases List.mem_cons.mp x with x | x
            · exact cp x
            · exact ((List.pairwise_cons.mp (List.pairwise_cons.mp s2).2).1 c x).asymm g
      have cV : neg c ∈ V := hc.resolve_left nL
      obtain ⟨pre2, post2, hV⟩ := List.append_of_mem cV
      have cm : c ≠ m := fun e => C.least p pS (e ▸ g)
      have cM : c ≠ M := fun e => C.most q qS (e ▸ h)
      rcases last_cases pre2 with rfl | ⟨pre2, v, rfl⟩
      · have := D.top
        rw [hV] at this
        exact cm (neg_inj (Option.some.inj this))
      · cases post2 with
        | nil =>
          have := D.bot
          rw [hV] at this
          simp at this
          exact cM (neg_inj this)
        | cons u post2 =>
          have hV1 : V = pre2 ++ v :: neg c :: u :: post2 := by rw [hV]; simp
          have hV2 : V = (pre2 ++ [v]) ++ neg c :: u :: post2 := by rw [hV]
          have k0 : 0 < X (sub (neg c) u) (sub v (neg c)) := Conv.at (by rw [← hV1]; exact D.conv)
          have e1 : ∀ s ∈ S, 0 ≤ turn (neg c) v (neg s) := fun s hs => (Edges.at (by rw [← hV1]; exact D.left) : ∀ s ∈ T, 0 ≤ turn (neg c) v s) (neg s) ((hT _).mpr (by rw [neg_neg]; exact hs))
          have e2 : ∀ s ∈ S, 0 ≤ turn u (neg c) (neg s) := fun s hs => (Edges.at (by rw [← hV2]; exact D.left) : ∀ s ∈ T, 0 ≤ turn u (neg c) s) (neg s) ((hT _).mpr (by rw [neg_neg]; exact hs))
          have o1 : Lt (neg c) v := (Edges.at (by rw [← hV1]; exact D.conv.up) : Lt (neg c) v)
          have o2 : Lt u (neg c) := (Edges.at (by rw [← hV2]; exact D.conv.up) : Lt u (neg c))
          have p1 : Pos (sub (neg p) (neg c)) := pos_sub.mpr (lt_neg.mpr g)
          have p2 : Pos (sub (neg c) (neg q)) := pos_sub.mpr (lt_neg.mpr h)
          have x12 : X (sub (neg p) (neg c)) (sub (neg c) (neg q)) = - X (sub q p) (sub c p) := by unfold X sub neg; grind
          have a2 : 0 ≤ X (sub v (neg c)) (sub (neg p) (neg c)) := e1 p pS
          have a4 := X_trans (pos_sub.mpr o1) p1 p2 a2 (by omega)
          have b1 : 0 ≤ X (sub (neg c) (neg q)) (sub (neg c) u) := by
            have := e2 q qS
            have e : X (sub (neg c) (neg q)) (sub (neg c) u) = turn u (neg c) (neg q) := by unfold X sub turn; grind
            omega
          have a5 := X_trans (pos_sub.mpr o1) p2 (pos_sub.mpr o2) a4 b1
          have : X (sub v (neg c)) (sub (neg c) u) = - X (sub (neg c) u) (sub v (neg c)) := by unfold X; grind
          omega
end Hull

namespace Hull
theorem no_both {S T : List P} {m M : P} {L V : List P} (C : Chain S m M L) (D : Chain T (neg M) (neg m) V) (hT : ∀ x, x ∈ T ↔ neg x ∈ S) {c : P} (h1 : c ∈ L) (h2 : neg c ∈ V) (cm : c ≠ m) (cM : c ≠ M) : False := by
  obtain ⟨pre, post, hL⟩ := List.append_of_mem h1
  obtain ⟨pre2, post2, hV⟩ := List.append_of_mem h2
  rcases last_cases pre with rfl | ⟨pre, q, rfl⟩
  · have := C.top
    rw [hL] at this
    exact cM (Option.some.inj this)
  cases post with
  | nil =>
    have := C.bot
    rw [hL] at this
    simp at this
    exact cm this
  | cons p post =>
    cases post2 with
    | nil =>
      have := D.bot
      rw [hV] at this
      simp at this
      exact cM (neg_inj this)
    | cons u post2 =>
      have hL1 : L = pre ++ q :: c :: p :: post := by rw [hL]; simp
      have hL2 : L = (pre ++ [q]) ++ c :: p :: post := hL
      have k0 : 0 < X (sub c p) (sub q c) := Conv.at (by rw [← hL1]; exact C.conv)
      have o1 : Lt c q := (Edges.at (by rw [← hL1]; exact C.conv.up) : Lt c q)
      have o2 : Lt p c := (Edges.at (by rw [← hL2]; exact C.conv.up) : Lt p c)
      have o3 : Lt u (neg c) := (Edges.at (by rw [← hV]; exact D.conv.up) : Lt u (neg c))
      have uT : u ∈ T := D.mem u (by rw [hV]; simp)
      have pS : p ∈ S := C.mem p (by rw [hL]; simp)
      have a1 : 0 ≤ X (sub q c) (sub (neg c) u) := by
        have h := (Edges.at (by rw [← hL1]; exact C.left) : ∀ s ∈ S, 0 ≤ turn c q s) (neg u) ((hT u).mp uT)
        have e : X (sub q c) (sub (neg c) u) = turn c q (neg u) := by unfold X sub turn neg; grind
        omega
      have a2 : 0 ≤ X (sub (neg c) u) (sub c p) := by
        have h := (Edges.at (by rw [← hV]; exact D.left) : ∀ s ∈ T, 0 ≤ turn u (neg c) s) (neg p) ((hT _).mpr (by rw [neg_neg]; exact pS))
        have e : X (sub (neg c) u) (sub c p) = turn u (neg c) (neg p) := by unfold X sub turn neg; grind
        omega
      have k := X_trans (pos_sub.mpr o1) (pos_sub.mpr o3) (pos_sub.mpr o2) a1 a2
      have : X (sub q c) (sub c p) = - X (sub c p) (sub q c) := by unfold X; grind
      omega
/-! by places -/
theorem split_at {l : List P} {j : Nat} (h : j + 1 < l.length) : ∃ pre post, l = pre ++ l[j] :: l[j + 1] :: post := by
  refine ⟨l.take j, l.drop (j + 2), ?_⟩
  have e1 : l = l.take j ++ l.drop j := (List.take_append_drop j l).symm
  have e2 : l.drop j = l[j] :: l.drop (j + 1) := List.drop_eq_getElem_cons (by omega)
  have e3 : l.drop (j + 1) = l[j + 1] :: l.drop (j + 2) := List.drop_eq_getElem_cons h
  rw [← e3, ← e2]
  exact e1
/-- what stands next to the i-th of the tail turned round, in top :: tail -/
theorem tail_edge {t : P} {r : List P} {i : Nat} (h : i < r.length) : ∃ pre post, t :: r = pre ++ (if h2 : i + 1 < r.length then r.reverse[i + 1]'(by simpa using h2) else t) :: r.reverse[i]'(by simpa using h) :: post := by
  have hj : (r.length - 1 - i) + 1 < (t :: r).length := by simp; omega
  obtain ⟨pre, post, e⟩ := split_at hj
  refine ⟨pre, post, ?_⟩
  have e1 : (t :: r)[r.length - 1 - i + 1] = r.reverse[i]'(by simpa using h) := by
    rw [List.getElem_cons_succ, List.getElem_reverse]
  have e2 : (t :: r)[r.length - 1 - i]'(by omega) = (if h2 : i + 1 < r.length then r.reverse[i + 1]'(by simpa using h2) else t) := by
    split
    · rename_i h2
      have e3 : r.length - 1 - i = (r.length - 1 - (i + 1)) + 1 := by omega
      simp only [e3, List.getElem_cons_succ, List.getElem_reverse]
    · have e3 : r.length - 1 - i = 0 := by omega
      simp only [e3, List.getElem_cons_zero]
  rw [← e1, ← e2]
  exact e
theorem nodup_inj {l : List P} (h : l.Nodup) {i j : Nat} {hi : i < l.length} {hj : j < l.length} (e : l[i] = l[j]) : i = j := by
  have p := List.pairwise_iff_getElem.mp h
  rcases Nat.lt_trichotomy i j with z | z | z
  · exact absurd e (p i j hi hj z)
  · exact z
  · exact absurd e.symm (p j i hj hi z)
/-! the polygon -/
def hull (s : List P) : List P := (half s).reverse.dropLast ++ (half s.reverse).reverse.dropLast
theorem rev_drop (t : P) (r : List P) : (t :: r).reverse.dropLast = r.reverse := by simp
/-- the corners, with what is known of them -/
structure Poly (s H : List P) : Prop where
  two : 2 ≤ H.length
  nodup : H.Nodup
  mem : ∀ c ∈ H, c ∈ s
  first : ∃ m, H[0]? = some m ∧ s.head? = some m ∧ ∀ c ∈ H, c ≠ m → Lt m c
  strict : ∀ (i j : Nat) (hi : i < H.length) (hj : j < H.length), j ≠ i → j ≠ (i + 1) % H.length → 0 < turn H[i] (H[(i + 1) % H.length]'(Nat.mod_lt _ (by omega))) H[j]
  weak : ∀ (i : Nat) (hi : i < H.length), ∀ x ∈ s, 0 ≤ turn H[i] (H[(i + 1) % H.length]'(Nat.mod_lt _ (by omega))) x
theorem poly {s : List P} (hs : s.Pairwise Lt) (h2 : 2 ≤ s.length) : Poly s (hull s) := by
  obtain ⟨m, rest, rfl⟩ : ∃ m rest, s = m :: rest := by
    cases s with
    | nil => simp at h2
    | cons m rest => exact ⟨m, rest, rfl⟩
  obtain ⟨S, M, C, hS⟩ := half_chain hs
  -- the upper chain, turned about
  obtain ⟨k, rest2, hk⟩ : ∃ k rest2, (m :: rest).reverse.map neg = k :: rest2 := by
    cases h : (m :: rest).reverse.map neg with
    | nil => simp at h
    | cons k r => exact ⟨k, r, rfl⟩
  have hs2 : (k :: rest2).Pairwise Lt := by
    rw [← hk, List.pairwise_map, List.pairwise_reverse]
    exact hs.imp fun h => lt_neg.mpr h
  obtain ⟨T, M2, D, hT0⟩ := half_chain hs2
  have hT : ∀ x, x ∈ T ↔ neg x ∈ S := fun x => by
    rw [hT0, ← hk, hS]
    simp only [List.mem_map, List.mem_reverse]
    constructor
    · rintro ⟨y, hy, rfl⟩
      rw [neg_neg]
      exact hy
    · intro h
      exact ⟨neg x, h, neg_neg x⟩
  have mS : m ∈ S := (hS m).mpr (by simp)
  have MS : M ∈ S := by
    have h := C.top
    cases q : half (m :: rest) with
    | nil => rw [q] at h; cases h
    | cons x l => rw [q] at h; cases h; exact C.mem M (by rw [q]; simp)
  have M2T : M2 ∈ T := by
    have h := D.top
    cases q : half (k :: rest2) with
    | nil => rw [q] at h; cases h
    | cons x l => rw [q] at h; cases h; exact D.mem M2 (by rw [q]; simp)
  have kT : k ∈ T := (hT0 k).mpr (by simp)
  have ek : k = neg M := by
    rcases Lt.total k (neg M) with h | h | h
    · exfalso
      have := C.most (neg k) ((hT k).mp kT)
      exact this (by have := lt_neg.mpr h; rwa [neg_neg] at this)
    · exact h
    · exact absurd h (D.least (neg M) ((hT _).mpr (by rw [neg_neg]; exact MS)))
  have eM2 : M2 = neg m := by
    rcases Lt.total M2 (neg m) with h | h | h
    · exact absurd h (D.most (neg m) ((hT _).mpr (by rw [neg_neg]; exact mS)))
    · exact h
    · exfalso
      have := C.least (neg M2) ((hT M2).mp M2T)
      exact this (by have := lt_neg.mpr h; rwa [neg_neg] at this)
  subst ek eM2
  have eV : half (neg M :: rest2) = (half (m :: rest).reverse).map neg := by rw [← hk, half_neg]
  rw [eV] at D
  generalize hLL : half (m :: rest) = L at C
  generalize hWW : half (m :: rest).reverse = W at D
  have hH : hull (m :: rest) = L.reverse.dropLast ++ W.reverse.dropLast := by unfold hull; rw [hLL, hWW]
  rw [hH]
  obtain ⟨r0, rest, rfl⟩ : ∃ r0 r, rest = r0 :: r := by
    cases rest with
    | nil => simp at h2
    | cons r0 r => exact ⟨r0, r, rfl⟩
  have mM : m ≠ M := fun e => by
    have h1 := C.most r0 ((hS r0).mpr (by simp))
    exact h1 (e ▸ (List.pairwise_cons.mp hs).1 r0 (by simp))
  obtain ⟨Lr, rfl⟩ : ∃ Lr, L = M :: Lr := by
    cases L with
    | nil => have := C.top; cases this
    | cons x l => have := C.top; cases this; exact ⟨l, rfl⟩
  obtain ⟨Wr, rfl⟩ : ∃ Wr, W = m :: Wr := by
    cases W with
    | nil => have := D.top; cases this
    | cons x l => have := D.top; exact ⟨l, by rw [neg_inj (Option.some.inj this)]⟩
  have hk0 : 0 < Lr.length := by
    cases Lr with
    | nil => have := C.bot; simp at this; exact absurd this.symm mM
    | cons _ _ => simp
  have hl0 : 0 < Wr.length := by
    cases Wr with
    | nil => have := D.bot; simp at this; exact absurd (neg_inj this) mM
    | cons _ _ => simp
  rw [rev_drop, rev_drop]
  clear hH hLL hWW hk h2
  have hn : (Lr.reverse ++ Wr.reverse).length = Lr.length + Wr.length := by simp
  have z1 : (Lr.reverse ++ Wr.reverse)[0]'(by omega) = m := by
    rw [List.getElem_append_left (by simpa using hk0), List.getElem_reverse]
    have h := C.bot
    rw [List.getLast?_eq_getElem?] at h
    have e : (M :: Lr).length - 1 = (Lr.length - 1 - 0) + 1 := by simp; omega
    rw [e, List.getElem?_cons_succ, List.getElem?_eq_getElem (by omega)] at h
    exact Option.some.inj h
  have z2 : (Lr.reverse ++ Wr.reverse)[Lr.length]'(by omega) = M := by
    rw [List.getElem_append_right (by simp), List.getElem_reverse]
    have h := D.bot
    rw [List.getLast?_eq_getElem?] at h
    have e : ((m :: Wr).map neg).length - 1 = (Wr.length - 1 - (Lr.length - Lr.reverse.length)) + 1 := by simp; omega
    rw [e, List.map_cons, List.getElem?_cons_succ, List.getElem?_map, List.getElem?_eq_getElem (by simp; omega)] at h
    exact neg_inj (Option.some.inj h)
  have inL : ∀ c, c ∈ Lr → Lt c M := fun c hc => (List.pairwise_cons.mp C.conv.down).1 c hc
  have inW : ∀ c, c ∈ Wr → Lt m c := fun c hc => by
    have := (List.pairwise_cons.mp (show ((neg m) :: Wr.map neg).Pairwise (fun x y => Lt y x) from D.conv.down)).1 (neg c) (List.mem_map_of_mem hc)
    exact lt_neg.mp this
  have side : ∀ c ∈ Lr.reverse ++ Wr.reverse, c ∈ (M :: Lr) ∨ neg c ∈ (m :: Wr).map neg := fun c hc => by
    rcases List.mem_append.mp hc with h | h
    · exact .inl (List.mem_cons_of_mem _ (List.mem_reverse.mp h))
    · exact .inr (List.mem_map_of_mem (List.mem_cons_of_mem _ (List.mem_reverse.mp h)))
  have inS : ∀ c ∈ Lr.reverse ++ Wr.reverse, c ∈ S := fun c hc => by
    rcases side c hc with h | h
    · exact C.mem c h
    · have := (hT _).mp (D.mem _ h)
      rwa [neg_neg] at this
  have nodup : (Lr.reverse ++ Wr.reverse).Nodup := by
    rw [List.nodup_append]
    refine ⟨?_, ?_, fun c h1 c' h2 e => ?_⟩
    · exact (List.pairwise_reverse).mpr ((List.pairwise_cons.mp C.conv.down).2.imp fun h => h.ne)
    · have h := (List.pairwise_cons.mp (show ((neg m) :: Wr.map neg).Pairwise (fun x y => Lt y x) from D.conv.down)).2
      rw [List.pairwise_map] at h
      exact (List.pairwise_reverse).mpr (h.imp fun h => (lt_neg.mp h).ne.symm)
    · subst e
      exact no_both C D hT (List.mem_cons_of_mem _ (List.mem_reverse.mp h1)) (List.mem_map_of_mem (List.mem_cons_of_mem _ (List.mem_reverse.mp h2))) (Lt.ne (inW c (List.mem_reverse.mp h2))).symm (Lt.ne (inL c (List.mem_reverse.mp h1)))
  -- each side is an edge of one of both chains
  have edge : ∀ (i : Nat) (hi : i < (Lr.reverse ++ Wr.reverse).length),
      (∃ pre post, M :: Lr = pre ++ ((Lr.reverse ++ Wr.reverse)[(i + 1) % (Lr.reverse ++ Wr.reverse).length]'(Nat.mod_lt _ (by omega))) :: (Lr.reverse ++ Wr.reverse)[i] :: post) ∨
      (∃ pre post, m :: Wr = pre ++ ((Lr.reverse ++ Wr.reverse)[(i + 1) % (Lr.reverse ++ Wr.reverse).length]'(Nat.mod_lt _ (by omega))) :: (Lr.reverse ++ Wr.reverse)[i] :: post) := by
    intro i hi
    by_cases h : i < Lr.length
    · left
      obtain ⟨pre, post, e⟩ := tail_edge (t := M) h
      refine ⟨pre, post, ?_⟩
      have e1 : (Lr.reverse ++ Wr.reverse)[i] = Lr.reverse[i]'(by simpa using h) := List.getElem_append_left (by simpa using h)
      have e2 : (Lr.reverse ++ Wr.reverse)[(i + 1) % (Lr.reverse ++ Wr.reverse).length]'(Nat.mod_lt _ (by omega)) = (if h2 : i + 1 < Lr.length then Lr.reverse[i + 1]'(by simpa using h2) else M) := by
        have em : (i + 1) % (Lr.reverse ++ Wr.reverse).length = i + 1 := Nat.mod_eq_of_lt (by omega)
        simp only [em]
        split
        · rename_i h2
          exact List.getElem_append_left (by simpa using h2)
        · have : i + 1 = Lr.length := by omega
          simp only [this]
          exact z2
      rw [e1, e2]
      exact e
    · right
      have h' : i - Lr.length < Wr.length := by omega
      obtain ⟨pre, post, e⟩ := tail_edge (t := m) h'
      refine ⟨pre, post, ?_⟩
      have e1 : (Lr.reverse ++ Wr.reverse)[i] = Wr.reverse[i - Lr.length]'(by simpa using h') := by
        rw [List.getElem_append_right (by simp; omega)]
        simp
      have e2 : (Lr.reverse ++ Wr.reverse)[(i + 1) % (Lr.reverse ++ Wr.reverse).length]'(Nat.mod_lt _ (by omega)) = (if h2 : i - Lr.length + 1 < Wr.length then Wr.reverse[i - Lr.length + 1]'(by simpa using h2) else m) := by
        split
        · rename_i h2
          have em : (i + 1) % (Lr.reverse ++ Wr.reverse).length = i + 1 := Nat.mod_eq_of_lt (by omega)
          simp only [em]
          rw [List.getElem_append_right (by simp; omega)]
          have : i + 1 - Lr.reverse.length = i - Lr.length + 1 := by simp; omega
          simp only [this]
        · have em : (i + 1) % (Lr.reverse ++ Wr.reverse).length = 0 := by
            have : i + 1 = (Lr.reverse ++ Wr.reverse).length := by omega
            rw [this, Nat.mod_self]
          simp only [em]
          exact z1
      rw [e1, e2]
      exact e
  have turned : ∀ {p q : P} {pre post : List P}, m :: Wr = pre ++ q :: p :: post → (m :: Wr).map neg = pre.map neg ++ neg q :: neg p :: post.map neg := fun {p q pre post} e => by rw [e]; simp
  have C' : Chain S (neg (neg m)) (neg (neg M)) (M :: Lr) := by rw [neg_neg, neg_neg]; exact C
  have hT' : ∀ x, x ∈ S ↔ neg x ∈ T := fun x => by rw [hT, neg_neg]
  refine ⟨by omega, nodup, fun c hc => (hS c).mp (inS c hc), ⟨m, ?_, rfl, fun c hc cm => ?_⟩, fun i j hi hj h1 h2 => ?_, fun i hi x hx => ?_⟩
  · rw [List.getElem?_eq_getElem (by omega), z1]
  · rcases Lt.total c m with h | h | h
    · exact absurd h (C.least c (inS c hc))
    · exact absurd h cm
    · exact h
  · have d1 : (Lr.reverse ++ Wr.reverse)[j] ≠ (Lr.reverse ++ Wr.reverse)[i] := fun e => h1 (nodup_inj nodup e)
    have d2 : (Lr.reverse ++ Wr.reverse)[j] ≠ (Lr.reverse ++ Wr.reverse)[(i + 1) % (Lr.reverse ++ Wr.reverse).length]'(Nat.mod_lt _ (by omega)) := fun e => h2 (nodup_inj nodup e)
    have cj := side _ (List.getElem_mem hj)
    rcases edge i hi with ⟨pre, post, e⟩ | ⟨pre, post, e⟩
    · exact strict C D hT e cj d1 d2
    · have e' := turned e
      have cj' : neg (Lr.reverse ++ Wr.reverse)[j] ∈ (m :: Wr).map neg ∨ neg (neg (Lr.reverse ++ Wr.reverse)[j]) ∈ M :: Lr := by
        rw [neg_neg]
        exact cj.symm
      have k := strict D C' hT' e' cj' (fun z => d1 (neg_inj z)) (fun z => d2 (neg_inj z))
      rwa [turn_neg] at k
  · have xS := (hS x).mpr hx
    rcases edge i hi with ⟨pre, post, e⟩ | ⟨pre, post, e⟩
    · exact (Edges.at (by rw [← e]; exact C.left) : ∀ s ∈ S, 0 ≤ turn _ _ s) x xS
    · have e' := turned e
      have k := (Edges.at (by rw [← e']; exact D.left) : ∀ s ∈ T, 0 ≤ turn (neg (Lr.reverse ++ Wr.reverse)[i]) (neg ((Lr.reverse ++ Wr.reverse)[(i + 1) % (Lr.reverse ++ Wr.reverse).length]'(Nat.mod_lt _ (by omega)))) s) (neg x) ((hT' x).mp xS)
      rwa [turn_neg] at k
end Hull

set_option maxRecDepth 100000
set_option maxHeartbeats 2000000
/-! a def's promise while no repr is under way (guards: none) -/
namespace L2
open PySem PySem.Spec PyProof.Rows
/-- as FnOk, where no guarded built-in is under way -/
structure FnG (P : Program) (w : World) (K : PySem.W.Frag) (mg : Str → Option Value) (base : Heap) (CX : CXT) (k : Nat) (f : Addr) (fd : FuncData) (ps : List Str) (sp : Sp) : Prop where
  len : ∀ vs H Q E, sp vs H Q E → vs.length = ps.length
  go : ∀ (A : Around) (outer : List Env) (s : Shared) (H : Hp) (args : Args) (us : List Value) (vs : List V) (Q : VK) (E : XK), A.guards = some [] → Room k A → Env0 P w K mg base A outer s H → BindsTo s fd args (ps.zip us) → Vals vs us → sp vs H Q E →
    codeAny (model P w) A (.call (.ref f) args) (CR CX outer P w H s Q E) s
section
variable {P : Program} {w : World} {K : PySem.W.Frag} {mg : Str → Option Value} {base : Heap} {CX : CXT} {k : Nat} {f : Addr} {fd : FuncData} {ps : List Str} {sp : Sp}
theorem FnOk.g (F : FnOk P w K mg base CX k f fd ps sp) : FnG P w K mg base CX k f fd ps sp := ⟨F.len, fun A outer s H args us vs Q E _ => F.run A outer s H args us vs Q E⟩
theorem FnG.mono {j : Nat} (F : FnG P w K mg base CX j f fd ps sp) (h : j ≤ k) : FnG P w K mg base CX k f fd ps sp := ⟨F.len, fun A outer s H args us vs Q E g hr => F.go A outer s H args us vs Q E g (hr.mono h)⟩
/-- from the body, met with the known guards -/
theorem Fun.okG {x qual : Str} {st : Stmt} {N : List Str} (F : Fun K x qual st f fd) (S : FnScope N ps (defScope st)) (len : ∀ vs H Q E, sp vs H Q E → vs.length = ps.length)
    (hb : ∀ (cdv : Value) (A : Around) (outer : List Env) (s : Shared) (H : Hp) (vs : List V) (Q : VK) (E : XK), (A.deeper (envOfC qual (defScope st) s.heap.objs.size f cdv)).guards = some [] → Room k (A.deeper (envOfC qual (defScope st) s.heap.objs.size f cdv)) → sp vs H Q E →
      ∃ t, PSs (cxOf CX0 P w K mg base N qual (defScope st) f cdv A outer s H E).nox (defBody st) t ∧ t { nx := fun _ H' => Q .non H', rt := Q } (start N vs) H) : FnG P w K mg base CX0 (k + 1) f fd ps sp := by
  obtain ⟨oc, od, kV, doc, pm, an, cdv, ct, osl, rfl, lk, hcd⟩ := F.ex
  refine ⟨len, fun A outer s H args us vs Q E hgd hr e0 hbi rel hsp => ?_⟩
  have sz := len _ _ _ _ hsp
  have kp : ∀ b o, base.get? b = some o → s.heap.get? b = some o := fun b o e => (e0.bs b o e).1
  have KX : K.In s.heap := e0.mod.kin.keeps kp
  refine codeAny_call_function hr.depth (KX _ _ lk) rfl S.co S.gen rfl (PySem.W.codeRec_of KX hcd) (hbi _ _ _ _ ?_)
  refine wpAny_newFunctionEnv_cells S.kind (fun y hy => ?_) fun env he s1 x => ?_
  · obtain ⟨n, v⟩ := y
    rcases S.par n (List.of_mem_zip hy).1 with q | q
    · exact .inl q
    · exact .inr ⟨q, PySem.W.cellsFrom_some _ _ _ (.inl q)⟩
  subst he
  refine ⟨(e0.mod.nolimit.keeps kp).keeps x.toInCall.keep, codeAny_func ?_⟩
  obtain ⟨t, ht, hq⟩ := hb cdv A outer s H vs Q E hgd (hr.deeper _) hsp
  have I0 : Inv (cxOf CX0 P w K mg base N qual (defScope st) f cdv A outer s H E) [] (start N vs) H s1 := inv_start S hr.hd e0 sz rel x
  refine wpAny_mono (ht.nox.run [] s1 (start N vs) H _ I0 hq) (fun fl s' z => ?_) fun e s' z => z
  match fl, z with
  | .ret u, ⟨v, σ', H', J, rv, q⟩ => exact ⟨v, H', J.os, J.bare, J.base, J.hok, rv, q⟩
  | .next, ⟨σ', H', J, q⟩ => exact ⟨.non, H', J.os, J.bare, J.base, J.hok, rfl, q⟩
  | .brk, ⟨_, _, _, q⟩ => exact q.elim
  | .cont, ⟨_, _, _, q⟩ => exact q.elim
end
section
variable {X : Cx} {CX : CXT} {k : Nat} {f : Addr} {fd : FuncData} {ps : List Str} {sp : Sp} {ds : List Value} {dvs : List V} {E : XK} {x : Str} {p pos : Pos} {e : Expr} {es : List Expr} {t : TA}
theorem run_fnG {pins : List (Addr × Obj)} {σ : St} {H : Hp} {s : Shared} {Q : VK} {us : List Value} {vs : List V} (F : FnG X.prog X.w X.K X.mg X.base CX k f fd ps sp) (hgd : X.A.guards = some []) (hr : Room k X.A) (hb : Binds X.K fd ps ds) (hd : Vals dvs ds) (hx : Passes CX X E)
    (I : Inv X pins σ H s) (r : Vals vs us) (h : sp (vs ++ dvs) H Q E) : wpAny (model X.prog X.w) X.A (call (.ref f) us) (EP X pins σ Q) X.xe s := by
  have rr : Vals (vs ++ dvs) (us ++ ds) := r.append hd
  have hl : (us ++ ds).length = ps.length := rr.length.symm.trans (F.len _ _ _ _ h)
  refine wpAny_call (codeAny_mono (F.go X.A X.stack s H ⟨us, []⟩ (us ++ ds) (vs ++ dvs) Q E hgd hr I.env0 (hb s us I.kIn hl) rr h) fun r s' z => ?_)
  match r, z with
  | .error e, z => exact hx pins σ H s e s' I z
  | .ok (.ret u), z => exact I.after z
  | .ok .next, z => exact z.elim
  | .ok .brk, z => exact z.elim
  | .ok .cont, z => exact z.elim
theorem pe_callG (F : FnG X.prog X.w X.K X.mg X.base CX k f fd ps sp) (hgd : X.A.guards = some []) (hr : Room k X.A) (hg : Gl X x) (hm : X.mg x = some (.ref f)) (hk : PySem.W.keepIn X.K (.ref f) = true) (hb : Binds X.K fd ps ds) (hd : Vals dvs ds) (hx : Passes CX X E)
    (ha : PA X (e :: es) t) (hdb : (x == ("__debug__" : Str)) = false := by decide) (he : starEach (e :: es) X.env = (false, eval e X.env) :: starEach es X.env := by rfl) (hpl : (backTo pos (starEach es X.env)).any (·.1) = false := by rfl) :
    PE X (.Call (.Name x p) (e :: es) [] pos) (tCall sp dvs E t) :=
  ⟨fun pins s σ H Q I h => wpAny_Call_Name_kw (ld_glob I hg hm (PySem.W.callWith_K (h₀ := X.base) I.ok.mod.kin hk (thn (ha.run pos pins s σ H _ I h) fun _ _ ⟨_, _, I1, r, q⟩ => ⟨I1.kIn, run_fnG F hgd hr hb hd hx I1 r q⟩) he hpl) hdb)⟩
end
/-- nothing but the script is tracked, and it is never written -/
theorem law_callG {P : Program} {w : World} {K : PySem.W.Frag} {mg mb : Str → Option Value} {k : Nat} {fa a : Addr} {fd : FuncData} {x : Str} {sp : Sp} {s₁ : Shared} {vs : List Value} {ns : List Int}
    (KX : K.In s₁.heap) (hns : s₁.heap.Ns mainGlobals mg) (hb : s₁.heap.Ns builtinsNs mb) (hbb : ∀ x : Str, x ≠ "__name__" → mb x = bootBuiltins x) (hlim : s₁.heap.NoLimit) (hg : s₁.gens = #[])
    (ha : s₁.heap.get? a = some { cls := .type "list", data := .seq vs.toArray }) (hi : IntsAre vs ns) (hl : ns.length ≤ sizeLine) (hr : Room k callerA)
    (F : ∀ base : Heap, K.In base → base.Ns mainGlobals mg → FnG P w K mg base CX0 k fa fd [x] sp) (hbind : ∀ (s : Shared) (u : Value), BindsTo s fd ⟨[u], []⟩ [(x, u)])
    (hsp : ∀ H : Hp, Only H → SqL K H a (ns.map V.int) → sp [.ref a] H (fun v _ => v = .bl true) fun _ _ _ => False) :
    codeAny (model P w) callerA (.call (.ref fa) ⟨[.ref a], []⟩) (fun r s' => r = .ok (.ret (.bool true)) ∧ OldK s₁.heap s'.heap ∧ s'.os = s₁.os ∧ AllBare s'.gens) s₁ := by
  have rv := vals_ints hi
  have run : ∀ H : Hp, Only H → (∀ b, H b ≠ none → b = a ∧ K.lookup a = none) → SqL K H a (ns.map V.int) → HOk P w H s₁.heap →
      codeAny (model P w) callerA (.call (.ref fa) ⟨[.ref a], []⟩) (fun r s' => r = .ok (.ret (.bool true)) ∧ OldK s₁.heap s'.heap ∧ s'.os = s₁.os ∧ AllBare s'.gens) s₁ := by
    intro H hO hA hS hok
    have free : ∀ {b : Addr}, b ≠ a → H b = none := fun {b} hb => Classical.byContradiction fun z => hb (hA b z).1
    have dictFree : ∀ {b : Addr} {o : Obj} {es : Array DictEntry} {ep : Nat}, s₁.heap.get? b = some o → o.data = .dict es ep → H b = none := fun {b o es ep} e1 e2 => free fun z => by
      rw [z] at e1
      rw [ha] at e1
      cases e1
      cases e2
    have down : ∀ {b : Addr} {m : Str → Option Value}, s₁.heap.Ns b m → (hidT s₁.heap H).Ns b m := fun {b m} n => by
      obtain ⟨o, es, ep, e1, e2, r⟩ := n
      exact ⟨o, es, ep, hidT_get e1 (dictFree e1 e2), e2, r⟩
    have kin : K.In (hidT s₁.heap H) := fun b o e => hidT_get (KX b o e) (Classical.byContradiction fun z => by
      have y := hA b z
      rw [y.1, y.2] at e
      cases e)
    have e0 : Env0 P w K mg (hidT s₁.heap H) callerA [] s₁ H := ⟨rfl, ⟨kin, down hns, ⟨mb, down hb, hbb⟩, by
      obtain ⟨mc, h1, h2⟩ := hlim
      exact ⟨mc, down h1, h2⟩⟩, fun _ _ e => of_hidT e, Nat.le_of_eq (hidT_size _ _), trivial, fun b hb => absurd (show b ∈ ([] : List Addr) from hb) (by simp), hok, .of_eq hg⟩
    refine codeAny_mono ((F _ kin (down hns)).go callerA [] s₁ H ⟨[.ref a], []⟩ [.ref a] [.ref a] _ _ rfl hr e0 (hbind s₁ (.ref a)) (.cons rfl .nil) (hsp H hO hS)) fun r s' z => ?_
    match r, z with
    | .error e, z => exact z.elim
    | .ok .next, z => exact z.elim
    | .ok .brk, z => exact z.elim
    | .ok .cont, z => exact z.elim
    | .ok (.ret u), ⟨v, H', os, bare, un, hok', rel, hv⟩ =>
      have hv' : v = .bl true := hv
      subst hv'
      obtain rfl : u = Value.bool true := rel
      refine ⟨rfl, OldK.of_keep fun b o e => ?_, os, bare⟩
      rcases hO b with n | ⟨ob, xs, n⟩
      · exact un.keep b o e n (by simp [frs]) (by simp)
      · have y1 := (hok b _ n).1
        have y2 := (hok' b _ (un.frzs b ob _ n)).1
        rw [e] at y1
        cases y1
        exact y2
  have zl : (ns.map V.int).length ≤ sizeLine := by rw [List.length_map]; exact hl
  by_cases hk : K.lookup a = none
  · refine run (fun b => if b = a then some (.frz { cls := .type "list", data := .seq vs.toArray } (.lst (ns.map V.int))) else none) (fun b => ?_) (fun b z => ?_) (.inl (.inr ⟨_, if_pos rfl⟩)) fun b u z => ?_
    · by_cases e : b = a
      · exact .inr ⟨_, _, if_pos e⟩
      · exact .inl (if_neg e)
    · by_cases e : b = a
      · exact ⟨e, hk⟩
      · exact absurd (if_neg e) z
    · by_cases e : b = a
      · subst e
        cases (if_pos rfl).symm.trans z
        exact ⟨ha, zl, vs, _, rv, ha⟩
      · cases (if_neg e).symm.trans z
  · cases q : K.lookup a with
    | none => exact absurd q hk
    | some o =>
      have e := (KX a o q).symm.trans ha
      cases e
      exact run (fun _ => none) (fun _ => .inl rfl) (fun b z => absurd rfl z) (.inr ⟨_, vs.toArray, _, q, rfl, rfl, rfl, by rw [List.size_toArray, hi.length]; exact hl, by simpa using rv⟩) fun b u z => nomatch z
theorem walk_ofG {l : PySem.W.OpenLaw} {n k : Nat} {q : Program} {loose : List Str} {XP : (Str → Option Value) → Heap → Prop} {YP : World → Heap → Prop} {d : DefRec} {K : Params → PySem.W.Frag} {sp : World → Sp} {x : Str}
    (hn : l.most = some n) (hn2 : n ≤ sizeLine) (hdf : d.params.defaults = []) (hr : Room k callerA) (hY : ∀ (w : World) (h : Heap), YP w h → (K w.params).In h)
    (F : ∀ (w : World) (mg : Str → Option Value) (fa : Addr) (h : Heap), (K w.params).In h → h.Ns mainGlobals mg → mg d.name = some (.ref fa) → ∃ fd : FuncData, (∀ (s : Shared) (u : Value), BindsTo s fd ⟨[u], []⟩ [(x, u)]) ∧
        ∀ base : Heap, (K w.params).In base → base.Ns mainGlobals mg → FnG l.prog w (K w.params) mg base CX0 k fa fd [x] (sp w))
    (hsp : ∀ (w : World) (H : Hp) (a : Addr) (ns : List Int), ns.length ≤ n → Only H → SqL (K w.params) H a (ns.map V.int) → sp w [.ref a] H (fun v _ => v = .bl true) fun _ _ _ => False) :
    PySem.W.WalkO q loose XP YP l.row.toRowW d [] (fun f vs => PySem.call f vs) :=
  Att.attach_call hn hdf fun w s₀ s₁ mg mb fa o pm cd doc a vs ns G Y ho hd hcd hmg hobj hints hlen hg => by
    obtain ⟨fd, hb, hF⟩ := F w mg fa _ (hY w _ Y) G.T.g hmg
    exact law_callG (hY w _ Y) G.T.g G.T.b G.T.builtins G.T.nolimit hg hobj hints (Nat.le_trans hlen hn2) hr hF hb fun H hO hS => hsp w H a ns hlen hO hS
end L2

set_option maxRecDepth 100000
set_option maxHeartbeats 2000000
/-! repr of data: a fixed text of the data, while no repr is under way -/
namespace L2
open PySem PySem.Spec PyProof.Rows
def rReprD (K : PySem.W.Frag) : List V → Hp → VK → Prop := fun xs H Q => ∃ (a : Addr) (d : PyData), xs = [.ref a] ∧ Dp K H (.ref a) d ∧ d.showable = true ∧ d.hasDict = false ∧ d.shown.length ≤ sizeLine ∧ d.depth ≤ 20 ∧ Q (.str d.shown) H
theorem call_reprD {X : Cx} {k : Nat} (hgd : X.A.guards = some []) (hr : Room k X.A) : CallR X (.builtin "repr") (rReprD X.K) := by
  intro pins s σ H xs us Q I r h
  obtain ⟨a, d, rfl, hd, h1, h2, h3, h4, q⟩ := h
  obtain ⟨u, rfl, ru⟩ := vals1 r
  obtain rfl : u = Value.ref a := ru
  obtain ⟨as, rd⟩ := Dp.reads I d (.ref a) (.ref a) hd rfl
  have hu := hr.un
  exact PySem.repr_of_reads' rd h1 (fun z => by rw [h2] at z; cases z) hgd (by omega) (fun _ _ e => e) (fun h' u tk k => ⟨.str _, H, I.kept k, ⟨_, rfl⟩, q⟩) h3
end L2

set_option maxRecDepth 100000
set_option maxHeartbeats 1000000
set_option exponentiation.threshold 20000
namespace L2
open PySem PySem.Spec PyProof.Rows
/-! ** of greater ints -/
def CPowW (i j : Int) : Prop := 0 ≤ j ∧ ((i.natAbs.log2 + 1 : Nat) : Int) * j ≤ 2 ^ 27
theorem op_powW {X : Cx} : OpR X (binaryOp .Pow) (rI CPowW fun i j => .int (i ^ j.toNat)) := opI fun i j _ _ _ _ _ hc q => by
  refine PyProof.Rows.pow_int hc.1 (Int.le_trans ?_ hc.2) q
  refine Int.mul_le_mul_of_nonneg_right ?_ hc.1
  unfold Builtin.Int.intBits
  split <;> omega
theorem pow_ok {i j : Int} {b : Nat} (hj : 0 ≤ j) (hj2 : j ≤ 3) (hb : i.natAbs < 2 ^ b) (h0 : 0 < b) (h1 : b ≤ 1000) : CPowW i j := by
  have h := PySem.Flt.log2_lt_of h0 hb
  refine ⟨hj, ?_⟩
  have : ((i.natAbs.log2 + 1 : Nat) : Int) ≤ 1000 := by omega
  have h3 : ((i.natAbs.log2 + 1 : Nat) : Int) * j ≤ 1000 * 3 := Int.mul_le_mul this hj2 hj (by decide)
  exact Int.le_trans h3 (by decide)
/-! heaps -/
theorem same_new {H : Hp} {p : Addr} {o : HO} (h : H p = none) : Same H (upd H p o) := fun b x e => by
  rw [upd_ne (ne_of_none e h)]
  exact e
theorem cut_to (xs : List V) (n : Nat) : cutV xs none (some (n : Int)) = xs.take n := by
  unfold cutV
  rw [HT.sIx_none, show HT.sIx xs.length xs.length (some (n : Int)) = min n xs.length from HT.sIx_nat xs.length xs.length n, List.drop_zero, Nat.sub_zero, ← List.take_take, List.take_length]
theorem cut_last (xs : List V) : cutV xs none (some (-1)) = xs.dropLast := by
  unfold cutV
  rw [HT.sIx_none, List.drop_zero, Nat.sub_zero]
  have e : HT.sIx xs.length xs.length (some (-1)) = xs.length - 1 := by
    unfold HT.sIx
    simp only
    split <;> omega
  rw [e, List.dropLast_eq_take]
/-- all but what stands at p is as it was -/
def SameX (p : Addr) (H H' : Hp) : Prop := ∀ b o, b ≠ p → H b = some o → H' b = some o
theorem Same.x {p : Addr} {H H' : Hp} (s : Same H H') : SameX p H H' := fun b o _ e => s b o e
theorem SameX.trans {p : Addr} {H H1 H2 : Hp} (a : SameX p H H1) (b : SameX p H1 H2) : SameX p H H2 := fun c o n e => b c o n (a c o n e)
theorem SameX.put {p : Addr} {H : Hp} {o : HO} : SameX p H (upd H p o) := fun b o' n e => by
  rw [upd_ne n]
  exact e
/-- p is new: what was there before is as it was -/
theorem SameX.same {p : Addr} {H H' : Hp} (s : SameX p H H') (n : H p = none) : Same H H' := fun b o e => s b o (ne_of_none e n) e
theorem Same.seqT {K : PySem.W.Frag} {H H' : Hp} {a : Addr} {xs : List V} (e : Same H H') (h : SqT K H a xs) : SqT K H' a xs := SqT.ext h e
theorem hu_of64 {A : Around} {k : Nat} (hr : Room k A) : A.units + 64 < cLine := by
  have := hr.un
  omega
theorem yesT {σ : L2.St} {H : Hp} {R N : Hp → Prop} (h : R H) : tYes σ H fun b H3 => if b = true then R H3 else N H3 := by
  show if true = true then R H else N H
  rw [if_pos rfl]
  exact h
theorem sz20 {n : Nat} (h : n ≤ 4096) : n ≤ sizeLine := Nat.le_trans h (by decide)
/-- a statement that is never met -/
theorem ps_no {X : Cx} {st : Stmt} : PS X st (fun _ _ _ => False) := ⟨fun _ _ _ _ _ _ h => h.elim⟩
end L2
namespace L2
open PySem PySem.Spec PyProof.Rows
theorem pe_and1 {X : Cx} {a : Expr} {t : TE} {pos : Pos} (ha : PE X a t) : PE X (.BoolOp .And [a] pos) t := ⟨fun pins s σ H Q I h => by
  have z := ha.run pins s σ H Q I h
  first
    | exact z
    | (unfold eval; exact z)⟩
theorem pe_or1 {X : Cx} {a : Expr} {t : TE} {pos : Pos} (ha : PE X a t) : PE X (.BoolOp .Or [a] pos) t := ⟨fun pins s σ H Q I h => by
  have z := ha.run pins s σ H Q I h
  first
    | exact z
    | (unfold eval; exact z)⟩
/-- a tuple, a list that is read: its type -/
theorem ty_tup {K : PySem.W.Frag} {H : Hp} {a : Addr} {xs : List V} (h : SqT K H a xs) : TyX K H (.ref a) (.type "tuple") := by
  rcases h with (h | ⟨o, h⟩) | ⟨o, its, n, h1, h2, _⟩
  · exact .base (.tup h)
  · exact .fTuple h
  · exact .kTuple h1 h2
theorem ty_lst {K : PySem.W.Frag} {H : Hp} {a : Addr} {xs : List V} (h : SqL K H a xs) : TyX K H (.ref a) (.type "list") := by
  rcases h with (h | ⟨o, h⟩) | ⟨o, its, n, h1, h2, _⟩
  · exact .base (.lst h)
  · exact .base (.frz h)
  · exact .kList h1 h2
end L2

set_option maxRecDepth 100000
set_option maxHeartbeats 1000000
/-! sorted(s), s a set of pairs of ints of any size -/
namespace L2
open PySem PySem.Spec PyProof.Rows
/-- the pair that a list of ints is -/
def prOf : List Int → Int × Int
  | x :: y :: _ => (x, y)
  | _ => (0, 0)
theorem tupInts_pair {h : Heap} {b : Addr} {x y : Int} (t : TS.TupInts h (.ref b) [x, y]) : Srt.IsPair h (.ref b) x y := by
  obtain ⟨c, its, e, ⟨o, ho, hc, n, hd⟩, hi⟩ := t
  cases e
  obtain ⟨l, rfl⟩ : ∃ l : List Value, its = l.toArray := ⟨its.toList, by rw [Array.toArray_toList]⟩
  simp only at hi
  have hi2 : IntsAre l [x, y] := by simpa using hi
  cases hi2 with
  | cons _ t1 r1 =>
    cases r1 with
    | cons _ t2 r2 =>
      cases r2
      exact ⟨b, o, t1, t2, n, rfl, ho, hc, hd⟩
section
variable {P : Program} {w : World} {A : Around} {E : Value → Shared → Prop} {s : Shared}
theorem sorted_setP {a : Addr} {L : List (Addr × List Int)} {es : Array (Int × Value)} {ep : Nat} {t : SetTable} {Q : Value → Shared → Prop} (R : SetTR P w s.heap a L es ep t) (hnone : A.handled = none) (h2 : ∀ p ∈ L, ∃ x y, p.2 = [x, y])
    (fin : ∀ s' p (out : List Value) (c : Nat) (M : List (Addr × List Int)), (∀ b o, s.heap.get? b = some o → s'.heap.get? b = some o) → s'.gens = s.gens → s'.os = s.os → s.heap.objs.size ≤ p →
      s'.heap.get? p = some (seqObj "list" out.toArray c) → out = M.map (fun q => Value.ref q.1) → M.Perm L → M.Pairwise (fun q r => SrtO.lexB (prOf r.2) (prOf q.2) = false) → Q (.ref p) s') :
    wpAny (model P w) A (call (.builtin "sorted") [.ref a]) Q E s := by
  obtain ⟨o, ho, hex, hd⟩ := R.ob
  have many := R.few
  refine Calls.call_function_entry kind_sorted plain_sorted entry_sorted (args_sorted1 _) ?_
  unfold Builtin.«sorted»
  refine wpAny_bind (m := checkCount "sorted" 1 1 _) (wpAny_pure ?_)
  have esz := R.size
  refine wpAny_bind (collect_set (A := A.in1) hnone ⟨o, ho, hex.1, hd⟩ R.fits (by unfold scanBound; omega) R.tab.ris R.led fun s1 vs keep1 grow1 gens1 os1 pm => ?_)
  have rowsE : es.toList.map (·.2) = L.map fun q => Value.ref q.1 := by
    rw [R.rows]
    unfold rowsOf
    rw [List.map_map] <;> rfl
  rw [rowsE] at pm
  -- each value comes from a row
  have from_row : ∀ v ∈ vs, ∃ q ∈ L, v = Value.ref q.1 := fun v hv => by
    obtain ⟨q, hq, e⟩ := List.mem_map.mp (pm.mem_iff.mp hv)
    exact ⟨q, hq, e.symm⟩
  have lift : ∀ us : List Value, (∀ v ∈ us, ∃ q ∈ L, v = Value.ref q.1) → ∃ M : List (Addr × List Int), us = M.map (fun q => Value.ref q.1) ∧ ∀ q ∈ M, q ∈ L := by
    intro us
    induction us with
    | nil => exact fun _ => ⟨[], rfl, fun q hq => nomatch hq⟩
    | cons v us ih =>
      intro hv
      obtain ⟨q, hq, e⟩ := hv v List.mem_cons_self
      obtain ⟨M, eM, sM⟩ := ih fun u hu => hv u (List.mem_cons_of_mem _ hu)
      exact ⟨q :: M, by rw [List.map_cons, e, eM], List.forall_mem_cons.mpr ⟨hq, sM⟩⟩
  have key1 : ∀ q ∈ L, ∀ r ∈ L, q.1 = r.1 → q = r := fun q hq r hr e => by
    have a1 := R.tup q hq
    rw [e] at a1
    exact Prod.ext e (a1.inj (R.tup r hr))
  have back : ∀ M : List (Addr × List Int), (∀ q ∈ M, q ∈ L) → (M.map (fun q => Value.ref q.1)).Perm (L.map fun q => Value.ref q.1) → M.Perm L := by
    intro M sM pM
    have nL : L.Nodup := nodup_of_map R.nd
    have nR : (L.map fun q => Value.ref q.1).Nodup := by
      refine List.pairwise_map.mpr (List.Pairwise.imp_of_mem (fun {q r} hq hr hne e => ?_) nL)
      exact hne (key1 q hq r hr (Value.ref.inj e))
    refine (List.perm_ext_iff_of_nodup (nodup_of_map (pM.nodup_iff.mpr nR)) nL).mpr fun q => ⟨sM q, fun hq => ?_⟩
    obtain ⟨r, hr, e⟩ := List.mem_map.mp (pM.mem_iff.mpr (List.mem_map.mpr ⟨q, hq, rfl⟩))
    rw [← key1 r (sM r hr) q hq (Value.ref.inj e)]
    exact hr
  have len64 : vs.length < 64 := by
    rw [pm.length_eq, List.length_map]
    exact many
  refine wpAny_bind (wpAny_newList ?_ (by rw [sizeLine_eq]; omega))
  have newAt : (s1.heap.push (seqObj "list" vs.toArray 0)).get? s1.heap.objs.size = some (seqObj "list" vs.toArray 0) := Heap.get?_push_size _ rfl
  have ti : ∀ q ∈ L, TS.TupInts (s1.heap.push (seqObj "list" vs.toArray 0)) (.ref q.1) q.2 := fun q hq => tupInts_of (P := P) (w := w) (isT_keep (R.tup q hq) fun b u e => Heap.get?_push_of_some _ (keep1 b u e))
  have pairs : ∀ v ∈ vs, Srt.IsPair (s1.heap.push (seqObj "list" vs.toArray 0)) v (prOf (TS.intsOf (s1.heap.push (seqObj "list" vs.toArray 0)) v)).1 (prOf (TS.intsOf (s1.heap.push (seqObj "list" vs.toArray 0)) v)).2 := fun v hv => by
    obtain ⟨q, hq, rfl⟩ := from_row v hv
    obtain ⟨x, y, e⟩ := h2 q hq
    have z := ti q hq
    rw [z.ints, e]
    rw [e] at z
    exact tupInts_pair z
  refine wpAny_bind (wpAny_holding (wpAny_call_entry slot_list_sort ⟨_, newAt, rfl⟩ entry_list_sort (SrtO.list_sort_ord (s := { s1 with heap := s1.heap.push (seqObj "list" vs.toArray 0) }) (SrtO.swo_lex fun v => prOf (TS.intsOf (s1.heap.push (seqObj "list" vs.toArray 0)) v)) newAt (by rw [sizeLine_eq]; omega)
    (fun two => SrtO.pairs_sortableO (s := { s1 with heap := s1.heap.push (seqObj "list" vs.toArray 0) }) (by omega) pairs fun u e c => ?_) fun out so sb => ⟨_, rfl, ?_⟩) (args_list_sort _)))
  · cases newAt.symm.trans e
    exact absurd (Value.type.inj c) (by decide)
  · obtain ⟨c, hc⟩ := sortedHeap_at (vs := vs) (out := out.toArray) newAt
    obtain ⟨M, eM, sM⟩ := lift out fun v hv => from_row v (sb.perm.mem_iff.mp hv)
    have pL : M.Perm L := back M sM (by rw [← eM]; exact sb.perm.trans pm)
    have pw : M.Pairwise (fun q r => SrtO.lexB (prOf r.2) (prOf q.2) = false) := by
      rw [eM] at so
      refine List.Pairwise.imp_of_mem (fun {q r} hq hr z => ?_) (List.pairwise_map.mp so)
      have f1 := (ti q (sM q hq)).ints
      have f2 := (ti r (sM r hr)).ints
      simp only [f1, f2] at z
      exact z
    refine wpAny_pure ⟨_, rfl, fin _ s1.heap.objs.size out c M (fun b u e => ?_) gens1 os1 grow1 hc eM pL pw⟩
    have q := keep1 b u e
    have lt := Heap.lt_size q
    show (sortedHeap (s1.heap.push (seqObj "list" vs.toArray 0)) s1.heap.objs.size vs out.toArray).get? b = some u
    rw [sortedHeap_old (Nat.ne_of_lt lt) (by rw [size_push']; exact Nat.lt_succ_of_lt lt)]
    exact Heap.get?_push_of_some _ q
end
/-- sorted(s), s a set of pairs of ints: a new list of them, ascending -/
def rSortedSP (K : PySem.W.Frag) (P : Program) (w : World) : List V → Hp → VK → Prop := fun vs H Q => ∃ (a : Addr) (L : List (Addr × List Int)), vs = [V.ref a] ∧ H a = some (SetTO P w a L) ∧ (∀ p ∈ L, SqT K H p.1 (p.2.map V.int)) ∧ (∀ p ∈ L, ∃ x y, p.2 = [x, y]) ∧
  ∀ (M : List (Addr × List Int)) (p : Addr), M.Perm L → (M.map (·.2)).Nodup → M.length < 64 → M.Pairwise (fun q r => SrtO.lexB (prOf r.2) (prOf q.2) = false) → H p = none → Q (.ref p) (upd H p (.lst (M.map fun q => V.ref q.1)))
section
variable {X : Cx}
theorem cr_sortedSP (hc : X.calm = true) : CallR X (.builtin "sorted") (rSortedSP X.K X.prog X.w) := by
  rintro pins s σ H vs us Q I r ⟨a, L, rfl, ha, hk, hp2, q⟩
  have base : SetT0 X.prog X.w s.heap a L := (I.hok a _ ha).1
  obtain ⟨es, ep, t, R⟩ := base.full fun p hp => I.isT (hk p hp)
  rw [Vals.ref1 r]
  refine sorted_setP R (I.ok.hd hc) hp2 fun s' p out c M keep gs os grow at_ eo pm pw => ?_
  have few : M.length < 64 := by
    rw [pm.length_eq]
    exact R.few
  have free : H p = none := I.hok.fresh grow
  have vals : Vals (M.map fun q => V.ref q.1) out := by
    rw [eo]
    exact vals_of_refs M
  have J : Inv X pins σ (upd H p (.lst (M.map fun q => V.ref q.1))) { s with heap := s'.heap, gens := s'.gens, drawn := s'.drawn, toks := s'.toks } :=
    I.call (ch := []) (Un.laid keep grow free) (I.hok.laid keep grow ⟨by rw [List.length_map, sizeLine_eq]; omega, out, c, vals, at_⟩) (by rw [gs]; exact I.bare) (fun _ z => nomatch z)
  have e : s' = { s with heap := s'.heap, gens := s'.gens, drawn := s'.drawn, toks := s'.toks } := by
    cases s'
    cases s
    cases os
    rfl
  rw [e]
  exact ⟨.ref p, _, J, rfl, q M p pm ((pm.map (·.2)).nodup_iff.mpr R.nd) few pw free⟩
end
end L2

set_option maxRecDepth 100000
set_option maxHeartbeats 1000000
/-! min(xs), max(xs), xs a list of pairs of ints -/
namespace L2
open PySem PySem.Spec PyProof.Rows
/-- op answers bt at every heap that holds what h0 held -/
def CmpK (prog : Program) (w : World) (A : Around) (h0 : Heap) (op : CmpOp) (vs : List Value) (bt : Nat → Nat → Bool) : Prop :=
  ∀ (i j : Nat) (u v : Value) (s : Shared) (Q : Value → Shared → Prop) (E : Value → Shared → Prop), (∀ b o, h0.get? b = some o → s.heap.get? b = some o) → vs[i]? = some u → vs[j]? = some v → Q (.bool (bt i j)) s → wpAny (model prog w) A (richCompare op u v) Q E s

section
variable {prog : Program} {w : World} {A : Around} {l it : Addr} {vs : List Value} {h0 : Heap} {bt : Nat → Nat → Bool}
theorem pm_min_turn {Fin : Result → Shared → Prop} (calm : A.handled = none) (away : l ≠ it) (itNew : h0.objs.size ≤ it) (lst : h0.IsList l vs.toArray) (cmp : CmpK prog w A.in1 h0 .Lt vs bt) (cell : Addr) (cellNew : h0.objs.size ≤ cell) (cellIt : cell ≠ it) :
    ∀ (left j : Nat) (s : Shared) (best : Value) (ep : Nat), vs.length - (j + 1) = left → j + 1 ≤ vs.length → (∀ b o, h0.get? b = some o → s.heap.get? b = some o) → s.heap.IsListIter it l (j + 1) → vs[argBest bt j]? = some best →
    s.heap.get? cell = some { cls := .type "list", dict := none, data := .seq #[best, best] ep, slots := #[] } →
    (∀ v h' tk, vs[argBest bt (vs.length - 1)]? = some v → (∀ b o, h0.get? b = some o → h'.get? b = some o) → Fin (.ok (.ret v)) { s with heap := h', toks := tk }) →
    codeAny (model prog w) A (.builtin "min.loop" ⟨[.ref it, .none, .ref cell], []⟩) Fin s := by
  have W := Walks.list (prog := prog) (w := w) (A := A.in1) calm it l away vs.toArray
  have many : vs.toArray.size = vs.length := List.size_toArray ..
  have named : (toString "min" ++ toString ".loop" : String) = "min.loop" := by decide
  have old : ∀ {b : Addr} {o : Obj}, h0.get? b = some o → b ∉ [it] ∧ b ≠ cell := fun {b o} e => by
    have z := Heap.lt_size e
    refine ⟨fun m => ?_, fun m => ?_⟩
    · rw [List.mem_singleton.mp m] at z
      exact absurd z (Nat.not_lt.mpr itNew)
    · rw [m] at z
      exact absurd z (Nat.not_lt.mpr cellNew)
  intro left
  induction left with
  | zero =>
    intro j s best ep e1 e2 keep iter eb hc fin
    have whole : j + 1 = vs.length := by omega
    refine codeAny_builtin PySem.F.entry_min_loop ?_
    rw [Around.under_plainId PySem.F.plain_min_loop _]
    show wpAny _ A.in1 (seqItems? (.ref cell) >>= _) _ _ s
    refine wpAny_bind (wpAny_seqItems hc rfl ?_)
    show wpAny _ A.in1 (tryCatch (pyNext (.ref it)) _ >>= _) _ _ s
    refine wpAny_bind (wpAny_tryCatch (W.done s _ _ ⟨by rw [many, ← whole]; exact iter, let ⟨o, ho, r⟩ := lst; ⟨o, keep _ _ ho, r⟩⟩ fun h' tk k1 => ?_))
    have hc1 := k1 cell _ (by simpa using cellIt) hc
    show wpAny _ A.in1 (updateSeq cell (fun _ => #[]) >>= _) _ _ _
    refine wpAny_bind ?_
    refine wpAny_updateSeq hc1 rfl (wpAny_bind (wpAny_letGo (wpAny_pure ?_)))
    refine fin best _ tk (by rw [← whole]; exact eb) fun b o e => ?_
    exact (Heap.get?_update_other _ _ (Ne.symm (old e).2)).trans (k1 b o (old e).1 (keep b o e))
  | succ left ih =>
    intro j s best ep e1 e2 keep iter eb hc fin
    have more : j + 1 < vs.length := by omega
    refine codeAny_builtin PySem.F.entry_min_loop ?_
    rw [Around.under_plainId PySem.F.plain_min_loop _]
    show wpAny _ A.in1 (seqItems? (.ref cell) >>= _) _ _ s
    refine wpAny_bind (wpAny_seqItems hc rfl ?_)
    show wpAny _ A.in1 (tryCatch (pyNext (.ref it)) _ >>= _) _ _ s
    refine wpAny_bind (wpAny_tryCatch (W.item (j + 1) s _ _ (by rw [many]; exact more) ⟨iter, let ⟨o, ho, r⟩ := lst; ⟨o, keep _ _ ho, r⟩⟩ fun v h' tk ev iter1 k1 => ?_))
    have ev1 : vs[j + 1]? = some v := by simpa using ev
    have hc1 := k1 cell _ (by simpa using cellIt) hc
    have keep1 : ∀ b o, h0.get? b = some o → h'.get? b = some o := fun b o e => k1 b o (old e).1 (keep b o e)
    show wpAny _ A.in1 (tryCatch (holding [v, v] (richCompare .Lt v best >>= _)) _ >>= _) _ _ _
    refine wpAny_bind (wpAny_tryCatch (wpAny_holding (wpAny_bind (cmp (j + 1) (argBest bt j) v best { s with heap := h', toks := tk } _ _ keep1 ev1 eb ?_))))
    refine wpAny_bind (wpAny_holding (wpAny_truthy_bool ?_))
    refine wpAny_bind (wpAny_letGo (wpAny_pure ?_))
    cases better : bt (j + 1) (argBest bt j) with
    | true =>
      simp only [if_true]
      refine wpAny_bind ?_
      refine wpAny_updateSeq hc1 rfl (wpAny_bind (wpAny_letGo ?_))
      rw [named]
      refine wpAny_pure ⟨plainId_quiet PySem.F.plain_min_loop _, ih (j + 1) _ v _ (by omega) more (fun b o e => ?_) ?_ (by simp only [argBest, better, if_true]; exact ev1) (Heap.get?_update_self _ hc1 rfl) fun v2 h2 tk2 a1 a2 => fin v2 h2 tk2 a1 a2⟩
      · exact (Heap.get?_update_other _ _ (Ne.symm (old e).2)).trans (keep1 b o e)
      · exact iter1.1.at fun o e => (Heap.get?_update_other _ _ cellIt).trans e
    | false =>
      simp only [Bool.false_eq_true, if_false]
      refine wpAny_bind (wpAny_letGo ?_)
      rw [named]
      exact wpAny_pure ⟨plainId_quiet PySem.F.plain_min_loop _, ih (j + 1) _ best ep (by omega) more keep1 iter1.1 (by simp only [argBest, better, Bool.false_eq_true, if_false]; exact eb) hc1 fun v2 h2 tk2 a1 a2 => fin v2 h2 tk2 a1 a2⟩
theorem pm_min {E Q : Value → Shared → Prop} {s : Shared} (calm : A.handled = none) (lst : s.heap.IsList l vs.toArray) (some1 : 0 < vs.length) (cmp : CmpK prog w A.in1 s.heap .Lt vs bt)
    (fin : ∀ v h' tk, vs[argBest bt (vs.length - 1)]? = some v → (∀ b o, s.heap.get? b = some o → h'.get? b = some o) → Q v { s with heap := h', toks := tk }) : wpAny (model prog w) A (call (.builtin "min") [.ref l]) Q E s := by
  have named : (toString "min" ++ toString ".loop" : String) = "min.loop" := by decide
  have lt : l < s.heap.objs.size := let ⟨_, e, _⟩ := lst; Heap.lt_size e
  refine call_function_tree PySem.F.kind_min PySem.F.plain_min PySem.F.entry_min (PySem.F.args_min1 _) ?_
  show wpAny _ A.in1 (Builtin.Builtins.bindParams "min" ["key", "default"] 0 ⟨[], []⟩ >>= _) _ _ s
  refine wpAny_bind (wpAny_of_eq (show Builtin.Builtins.bindParams "min" ["key", "default"] 0 ⟨[], []⟩ = pure [none, none] from rfl) ?_)
  refine wpAny_bind (wpAny_pure ?_)
  refine wpAny_bind (wpAny_pyIter_list lst ?_)
  refine wpAny_bind (wpAny_newObj_type ?_)
  rw [named]
  generalize hH : (s.heap.push { cls := .type "list_iterator", data := .fields #[.ref l, .int 0 0] }) = H1
  have size1 : H1.objs.size = s.heap.objs.size + 1 := by rw [← hH, Heap.size_push]
  have atIt : H1.IsListIter s.heap.objs.size l 0 := by
    rw [← hH]
    exact ⟨_, Heap.get?_push_size _ rfl, rfl, rfl⟩
  have keep1 : ∀ b o, s.heap.get? b = some o → H1.get? b = some o := fun b o e => by
    rw [← hH]
    exact Heap.get?_push_of_some _ e
  refine wpAny_pure ⟨plainId_quiet PySem.F.plain_min_loop _, ?_⟩
  have W := Walks.list (prog := prog) (w := w) (A := A.in1) calm s.heap.objs.size l (Nat.ne_of_lt lt) vs.toArray
  have many : vs.toArray.size = vs.length := List.size_toArray ..
  have hcell : (H1.push { cls := .type "list", dict := none, data := .seq #[] 0, slots := #[] }).get? H1.objs.size = some { cls := .type "list", dict := none, data := .seq #[] 0, slots := #[] } := Heap.get?_push_size _ rfl
  have keep2 : ∀ b o, H1.get? b = some o → (H1.push { cls := .type "list", dict := none, data := .seq #[] 0, slots := #[] }).get? b = some o := fun b o e => Heap.get?_push_of_some _ e
  refine codeAny_builtin PySem.F.entry_min_loop ?_
  rw [Around.under_plainId PySem.F.plain_min_loop _]
  show wpAny _ A.in1 (seqItems? (.ref H1.objs.size) >>= _) _ _ { s with heap := H1.push { cls := .type "list", dict := none, data := .seq #[] 0, slots := #[] } }
  refine wpAny_bind (wpAny_seqItems hcell rfl ?_)
  show wpAny _ A.in1 (tryCatch (pyNext (.ref s.heap.objs.size)) _ >>= _) _ _ _
  refine wpAny_bind (wpAny_tryCatch (W.item 0 _ _ _ (by rw [many]; exact some1) ⟨atIt.at fun o e => keep2 _ _ e, let ⟨o, ho, r⟩ := lst; ⟨o, keep2 _ _ (keep1 _ _ ho), r⟩⟩ fun v h' tk ev iter1 k1 => ?_))
  have ev1 : vs[0]? = some v := by simpa using ev
  have off : H1.objs.size ≠ s.heap.objs.size := by omega
  have hc1 := k1 H1.objs.size _ (by simpa using off) hcell
  show wpAny _ A.in1 (updateSeq H1.objs.size (fun _ => #[v, v]) >>= _) _ _ _
  refine wpAny_bind ?_
  refine wpAny_updateSeq hc1 rfl ?_
  rw [named]
  refine wpAny_pure ⟨plainId_quiet PySem.F.plain_min_loop _, pm_min_turn calm (Nat.ne_of_lt lt) (Nat.le_refl _) lst cmp H1.objs.size (by omega) off _ 0 _ v _ rfl some1 (fun b o e => ?_) ?_ ev1 (Heap.get?_update_self _ hc1 rfl) fun v2 h2 tk2 a1 a2 => fin v2 h2 tk2 a1 a2⟩
  · have z := Heap.lt_size e
    refine (Heap.get?_update_other _ _ (Nat.ne_of_gt (show b < H1.objs.size by rw [size1]; exact Nat.lt_succ_of_lt z))).trans (k1 b o (fun m => ?_) (keep2 _ _ (keep1 _ _ e)))
    rw [List.mem_singleton.mp m] at z
    exact absurd z (Nat.lt_irrefl _)
  · exact iter1.1.at fun o e => (Heap.get?_update_other _ _ off).trans e
end

section
variable {prog : Program} {w : World} {A : Around} {l it : Addr} {vs : List Value} {h0 : Heap} {bt : Nat → Nat → Bool}
theorem pm_max_turn {Fin : Result → Shared → Prop} (calm : A.handled = none) (away : l ≠ it) (itNew : h0.objs.size ≤ it) (lst : h0.IsList l vs.toArray) (cmp : CmpK prog w A.in1 h0 .Gt vs bt) (cell : Addr) (cellNew : h0.objs.size ≤ cell) (cellIt : cell ≠ it) :
    ∀ (left j : Nat) (s : Shared) (best : Value) (ep : Nat), vs.length - (j + 1) = left → j + 1 ≤ vs.length → (∀ b o, h0.get? b = some o → s.heap.get? b = some o) → s.heap.IsListIter it l (j + 1) → vs[argBest bt j]? = some best →
    s.heap.get? cell = some { cls := .type "list", dict := none, data := .seq #[best, best] ep, slots := #[] } →
    (∀ v h' tk, vs[argBest bt (vs.length - 1)]? = some v → (∀ b o, h0.get? b = some o → h'.get? b = some o) → Fin (.ok (.ret v)) { s with heap := h', toks := tk }) →
    codeAny (model prog w) A (.builtin "max.loop" ⟨[.ref it, .none, .ref cell], []⟩) Fin s := by
  have W := Walks.list (prog := prog) (w := w) (A := A.in1) calm it l away vs.toArray
  have many : vs.toArray.size = vs.length := List.size_toArray ..
  have named : (toString "max" ++ toString ".loop" : String) = "max.loop" := by decide
  have old : ∀ {b : Addr} {o : Obj}, h0.get? b = some o → b ∉ [it] ∧ b ≠ cell := fun {b o} e => by
    have z := Heap.lt_size e
    refine ⟨fun m => ?_, fun m => ?_⟩
    · rw [List.mem_singleton.mp m] at z
      exact absurd z (Nat.not_lt.mpr itNew)
    · rw [m] at z
      exact absurd z (Nat.not_lt.mpr cellNew)
  intro left
  induction left with
  | zero =>
    intro j s best ep e1 e2 keep iter eb hc fin
    have whole : j + 1 = vs.length := by omega
    refine codeAny_builtin PySem.F.entry_max_loop ?_
    rw [Around.under_plainId PySem.F.plain_max_loop _]
    show wpAny _ A.in1 (seqItems? (.ref cell) >>= _) _ _ s
    refine wpAny_bind (wpAny_seqItems hc rfl ?_)
    show wpAny _ A.in1 (tryCatch (pyNext (.ref it)) _ >>= _) _ _ s
    refine wpAny_bind (wpAny_tryCatch (W.done s _ _ ⟨by rw [many, ← whole]; exact iter, let ⟨o, ho, r⟩ := lst; ⟨o, keep _ _ ho, r⟩⟩ fun h' tk k1 => ?_))
    have hc1 := k1 cell _ (by simpa using cellIt) hc
    show wpAny _ A.in1 (updateSeq cell (fun _ => #[]) >>= _) _ _ _
    refine wpAny_bind ?_
    refine wpAny_updateSeq hc1 rfl (wpAny_bind (wpAny_letGo (wpAny_pure ?_)))
    refine fin best _ tk (by rw [← whole]; exact eb) fun b o e => ?_
    exact (Heap.get?_update_other _ _ (Ne.symm (old e).2)).trans (k1 b o (old e).1 (keep b o e))
  | succ left ih =>
    intro j s best ep e1 e2 keep iter eb hc fin
    have more : j + 1 < vs.length := by omega
    refine codeAny_builtin PySem.F.entry_max_loop ?_
    rw [Around.under_plainId PySem.F.plain_max_loop _]
    show wpAny _ A.in1 (seqItems? (.ref cell) >>= _) _ _ s
    refine wpAny_bind (wpAny_seqItems hc rfl ?_)
    show wpAny _ A.in1 (tryCatch (pyNext (.ref it)) _ >>= _) _ _ s
    refine wpAny_bind (wpAny_tryCatch (W.item (j + 1) s _ _ (by rw [many]; exact more) ⟨iter, let ⟨o, ho, r⟩ := lst; ⟨o, keep _ _ ho, r⟩⟩ fun v h' tk ev iter1 k1 => ?_))
    have ev1 : vs[j + 1]? = some v := by simpa using ev
    have hc1 := k1 cell _ (by simpa using cellIt) hc
    have keep1 : ∀ b o, h0.get? b = some o → h'.get? b = some o := fun b o e => k1 b o (old e).1 (keep b o e)
    show wpAny _ A.in1 (tryCatch (holding [v, v] (richCompare .Gt v best >>= _)) _ >>= _) _ _ _
    refine wpAny_bind (wpAny_tryCatch (wpAny_holding (wpAny_bind (cmp (j + 1) (argBest bt j) v best { s with heap := h', toks := tk } _ _ keep1 ev1 eb ?_))))
    refine wpAny_bind (wpAny_holding (wpAny_truthy_bool ?_))
    refine wpAny_bind (wpAny_letGo (wpAny_pure ?_))
    cases better : bt (j + 1) (argBest bt j) with
    | true =>
      simp only [if_true]
      refine wpAny_bind ?_
      refine wpAny_updateSeq hc1 rfl (wpAny_bind (wpAny_letGo ?_))
      rw [named]
      refine wpAny_pure ⟨plainId_quiet PySem.F.plain_max_loop _, ih (j + 1) _ v _ (by omega) more (fun b o e => ?_) ?_ (by simp only [argBest, better, if_true]; exact ev1) (Heap.get?_update_self _ hc1 rfl) fun v2 h2 tk2 a1 a2 => fin v2 h2 tk2 a1 a2⟩
      · exact (Heap.get?_update_other _ _ (Ne.symm (old e).2)).trans (keep1 b o e)
      · exact iter1.1.at fun o e => (Heap.get?_update_other _ _ cellIt).trans e
    | false =>
      simp only [Bool.false_eq_true, if_false]
      refine wpAny_bind (wpAny_letGo ?_)
      rw [named]
      exact wpAny_pure ⟨plainId_quiet PySem.F.plain_max_loop _, ih (j + 1) _ best ep (by omega) more keep1 iter1.1 (by simp only [argBest, better, Bool.false_eq_true, if_false]; exact eb) hc1 fun v2 h2 tk2 a1 a2 => fin v2 h2 tk2 a1 a2⟩
theorem pm_max {E Q : Value → Shared → Prop} {s : Shared} (calm : A.handled = none) (lst : s.heap.IsList l vs.toArray) (some1 : 0 < vs.length) (cmp : CmpK prog w A.in1 s.heap .Gt vs bt)
    (fin : ∀ v h' tk, vs[argBest bt (vs.length - 1)]? = some v → (∀ b o, s.heap.get? b = some o → h'.get? b = some o) → Q v { s with heap := h', toks := tk }) : wpAny (model prog w) A (call (.builtin "max") [.ref l]) Q E s := by
  have named : (toString "max" ++ toString ".loop" : String) = "max.loop" := by decide
  have lt : l < s.heap.objs.size := let ⟨_, e, _⟩ := lst; Heap.lt_size e
  refine call_function_tree PySem.F.kind_max PySem.F.plain_max PySem.F.entry_max (PySem.F.args_max1 _) ?_
  show wpAny _ A.in1 (Builtin.Builtins.bindParams "max" ["key", "default"] 0 ⟨[], []⟩ >>= _) _ _ s
  refine wpAny_bind (wpAny_of_eq (show Builtin.Builtins.bindParams "max" ["key", "default"] 0 ⟨[], []⟩ = pure [none, none] from rfl) ?_)
  refine wpAny_bind (wpAny_pure ?_)
  refine wpAny_bind (wpAny_pyIter_list lst ?_)
  refine wpAny_bind (wpAny_newObj_type ?_)
  rw [named]
  generalize hH : (s.heap.push { cls := .type "list_iterator", data := .fields #[.ref l, .int 0 0] }) = H1
  have size1 : H1.objs.size = s.heap.objs.size + 1 := by rw [← hH, Heap.size_push]
  have atIt : H1.IsListIter s.heap.objs.size l 0 := by
    rw [← hH]
    exact ⟨_, Heap.get?_push_size _ rfl, rfl, rfl⟩
  have keep1 : ∀ b o, s.heap.get? b = some o → H1.get? b = some o := fun b o e => by
    rw [← hH]
    exact Heap.get?_push_of_some _ e
  refine wpAny_pure ⟨plainId_quiet PySem.F.plain_max_loop _, ?_⟩
  have W := Walks.list (prog := prog) (w := w) (A := A.in1) calm s.heap.objs.size l (Nat.ne_of_lt lt) vs.toArray
  have many : vs.toArray.size = vs.length := List.size_toArray ..
  have hcell : (H1.push { cls := .type "list", dict := none, data := .seq #[] 0, slots := #[] }).get? H1.objs.size = some { cls := .type "list", dict := none, data := .seq #[] 0, slots := #[] } := Heap.get?_push_size _ rfl
  have keep2 : ∀ b o, H1.get? b = some o → (H1.push { cls := .type "list", dict := none, data := .seq #[] 0, slots := #[] }).get? b = some o := fun b o e => Heap.get?_push_of_some _ e
  refine codeAny_builtin PySem.F.entry_max_loop ?_
  rw [Around.under_plainId PySem.F.plain_max_loop _]
  show wpAny _ A.in1 (seqItems? (.ref H1.objs.size) >>= _) _ _ { s with heap := H1.push { cls := .type "list", dict := none, data := .seq #[] 0, slots := #[] } }
  refine wpAny_bind (wpAny_seqItems hcell rfl ?_)
  show wpAny _ A.in1 (tryCatch (pyNext (.ref s.heap.objs.size)) _ >>= _) _ _ _
  refine wpAny_bind (wpAny_tryCatch (W.item 0 _ _ _ (by rw [many]; exact some1) ⟨atIt.at fun o e => keep2 _ _ e, let ⟨o, ho, r⟩ := lst; ⟨o, keep2 _ _ (keep1 _ _ ho), r⟩⟩ fun v h' tk ev iter1 k1 => ?_))
  have ev1 : vs[0]? = some v := by simpa using ev
  have off : H1.objs.size ≠ s.heap.objs.size := by omega
  have hc1 := k1 H1.objs.size _ (by simpa using off) hcell
  show wpAny _ A.in1 (updateSeq H1.objs.size (fun _ => #[v, v]) >>= _) _ _ _
  refine wpAny_bind ?_
  refine wpAny_updateSeq hc1 rfl ?_
  rw [named]
  refine wpAny_pure ⟨plainId_quiet PySem.F.plain_max_loop _, pm_max_turn calm (Nat.ne_of_lt lt) (Nat.le_refl _) lst cmp H1.objs.size (by omega) off _ 0 _ v _ rfl some1 (fun b o e => ?_) ?_ ev1 (Heap.get?_update_self _ hc1 rfl) fun v2 h2 tk2 a1 a2 => fin v2 h2 tk2 a1 a2⟩
  · have z := Heap.lt_size e
    refine (Heap.get?_update_other _ _ (Nat.ne_of_gt (show b < H1.objs.size by rw [size1]; exact Nat.lt_succ_of_lt z))).trans (k1 b o (fun m => ?_) (keep2 _ _ (keep1 _ _ e)))
    rw [List.mem_singleton.mp m] at z
    exact absurd z (Nat.lt_irrefl _)
  · exact iter1.1.at fun o e => (Heap.get?_update_other _ _ off).trans e
end

/-! the order of pairs -/
def lexO (p q : Int × Int) : Bool := decide (p.1 < q.1 ∨ (p.1 = q.1 ∧ p.2 < q.2))
theorem lexO_iff {p q : Int × Int} : lexO p q = true ↔ p.1 < q.1 ∨ (p.1 = q.1 ∧ p.2 < q.2) := decide_eq_true_iff
theorem lexLt2 (a b c d : Int) : HT.lexLt [a, b] [c, d] = lexO (a, b) (c, d) := by
  unfold lexO
  simp only [HT.lexLt]
  by_cases h1 : a = c
  · subst h1
    simp
    omega
  · simp [h1]
theorem argBest_lex (f : Nat → Int × Int) : ∀ n, argBest (fun i j => lexO (f i) (f j)) n ≤ n ∧ ∀ j, j ≤ n → lexO (f j) (f (argBest (fun i j => lexO (f i) (f j)) n)) = false := by
  intro n
  induction n with
  | zero =>
    refine ⟨Nat.le_refl _, fun j hj => ?_⟩
    rw [Nat.le_zero.mp hj]
    refine decide_eq_false ?_
    show ¬ ((f 0).1 < (f 0).1 ∨ ((f 0).1 = (f 0).1 ∧ (f 0).2 < (f 0).2))
    omega
  | succ n ih =>
    obtain ⟨i1, i2⟩ := ih
    unfold argBest
    generalize argBest (fun i j => lexO (f i) (f j)) n = m at i1 i2 ⊢
    cases hb : lexO (f (n + 1)) (f m) with
    | true =>
      rw [if_pos rfl]
      refine ⟨Nat.le_refl _, fun j hj => ?_⟩
      have hm := lexO_iff.mp hb
      by_cases e : j = n + 1
      · subst e
        exact decide_eq_false (by omega)
      · have := of_decide_eq_false (i2 j (by omega))
        exact decide_eq_false (by omega)
    | false =>
      rw [if_neg (by decide)]
      refine ⟨by omega, fun j hj => ?_⟩
      by_cases e : j = n + 1
      · rw [e]
        exact hb
      · exact i2 j (by omega)
theorem argBest_gex (f : Nat → Int × Int) : ∀ n, argBest (fun i j => lexO (f j) (f i)) n ≤ n ∧ ∀ j, j ≤ n → lexO (f (argBest (fun i j => lexO (f j) (f i)) n)) (f j) = false := by
  intro n
  induction n with
  | zero =>
    refine ⟨Nat.le_refl _, fun j hj => ?_⟩
    rw [Nat.le_zero.mp hj]
    refine decide_eq_false ?_
    show ¬ ((f 0).1 < (f 0).1 ∨ ((f 0).1 = (f 0).1 ∧ (f 0).2 < (f 0).2))
    omega
  | succ n ih =>
    obtain ⟨i1, i2⟩ := ih
    unfold argBest
    generalize argBest (fun i j => lexO (f j) (f i)) n = m at i1 i2 ⊢
    cases hb : lexO (f m) (f (n + 1)) with
    | true =>
      rw [if_pos rfl]
      refine ⟨Nat.le_refl _, fun j hj => ?_⟩
      have hm := lexO_iff.mp hb
      by_cases e : j = n + 1
      · subst e
        exact decide_eq_false (by omega)
      · have := of_decide_eq_false (i2 j (by omega))
        exact decide_eq_false (by omega)
    | false =>
      rw [if_neg (by decide)]
      refine ⟨by omega, fun j hj => ?_⟩
      by_cases e : j = n + 1
      · rw [e]
        exact hb
      · exact i2 j (by omega)
/-- < and > of two pairs that stand in the heap -/
theorem ints_pair {l : List Value} {x y : Int} (h : IntsAre l [x, y]) : ∃ t u, l = [.int x t, .int y u] := by
  cases h with
  | cons _ t1 r1 =>
    cases r1 with
    | cons _ t2 r2 =>
      cases r2
      exact ⟨t1, t2, rfl⟩
section
variable {prog : Program} {w : World} {A : Around} {s : Shared}
theorem rich_lt_pair {a b : Addr} {x y z u : Int} {Q E : Value → Shared → Prop} (h1 : TS.TupInts s.heap (.ref a) [x, y]) (h2 : TS.TupInts s.heap (.ref b) [z, u]) (hu : A.units < cLine) (q : Q (.bool (lexO (x, y) (z, u))) s) : wpAny (model prog w) A (richCompare .Lt (.ref a) (.ref b)) Q E s := by
  obtain ⟨c, i1, e1, T1, I1⟩ := h1
  obtain ⟨d, i2, e2, T2, I2⟩ := h2
  cases e1
  cases e2
  exact HT.lt_tupInts T1 T2 I1 I2 hu (by rw [lexLt2]; exact q)
theorem rich_gt_pair {a b : Addr} {x y z u : Int} {Q E : Value → Shared → Prop} (h1 : TS.TupInts s.heap (.ref a) [x, y]) (h2 : TS.TupInts s.heap (.ref b) [z, u]) (hu : A.units < cLine) (q : Q (.bool (lexO (z, u) (x, y))) s) : wpAny (model prog w) A (richCompare .Gt (.ref a) (.ref b)) Q E s := by
  obtain ⟨c, i1, e1, T1, I1⟩ := h1
  obtain ⟨d, i2, e2, T2, I2⟩ := h2
  cases e1
  cases e2
  obtain ⟨t1, t2, k1⟩ := ints_pair I1
  obtain ⟨t3, t4, k2⟩ := ints_pair I2
  obtain rfl : i1 = #[.int x t1, .int y t2] := by rw [← Array.toArray_toList (xs := i1), k1]
  obtain rfl : i2 = #[.int z t3, .int u t4] := by rw [← Array.toArray_toList (xs := i2), k2]
  refine Ob.RcOp.tuples_gt (e := fun j => if j = 0 then x == z else y == u) (r := fun j => if j = 0 then decide (x > z) else decide (y > u)) T1 T2 hu (fun j p1 p2 => ?_) (fun j p1 p2 _ => ?_) prog w E Q ?_
  · rcases (show j = 0 ∨ j = 1 by simp at p1; omega) with rfl | rfl
    · exact SeqAt.EqAt.int_int x t1 z t3
    · exact SeqAt.EqAt.int_int y t2 u t4
  · rcases (show j = 0 ∨ j = 1 by simp at p1; omega) with rfl | rfl
    · intro P W E' Q' q'
      exact richCompare_gives (op := .Gt) (typeIs_int _ _ _) (typeIs_int _ _ _) PySem.F.slot_int_gt PySem.F.entry_int_gt (PySem.F.args_int_gt_2 _ _) (gives_int_gt _ _ _ _) (fun x => nomatch x) q'
    · intro P W E' Q' q'
      exact richCompare_gives (op := .Gt) (typeIs_int _ _ _) (typeIs_int _ _ _) PySem.F.slot_int_gt PySem.F.entry_int_gt (PySem.F.args_int_gt_2 _ _) (gives_int_gt _ _ _ _) (fun x => nomatch x) q'
  · have e : Ob.lexAt (fun j => if j = 0 then x == z else y == u) (fun j => if j = 0 then decide (x > z) else decide (y > u)) (decide ((#[Value.int x t1, .int y t2] : Array Value).size > (#[Value.int z t3, .int u t4] : Array Value).size)) 0 (min (#[Value.int x t1, .int y t2] : Array Value).size (#[Value.int z t3, .int u t4] : Array Value).size) = lexO (z, u) (x, y) := by
      show Ob.lexAt _ _ (decide (2 > 2)) 0 2 = _
      simp only [Ob.lexAt, lexO]
      by_cases h1 : x = z
      · subst h1
        by_cases h2 : y = u
        · subst h2
          simp
        · simp [h2]
      · simp [h1]
        omega
    rw [e]
    exact q
end
/-- min(xs), max(xs), xs a list of pairs of ints: an item that no other is beside -/
def rMinP (K : PySem.W.Frag) (f : Int × Int → Int × Int → Bool) : List V → Hp → VK → Prop := fun vs H Q => ∃ (a : Addr) (ks : List (Addr × (Int × Int))), vs = [V.ref a] ∧ SqL K H a (ks.map fun p => V.ref p.1) ∧ (∀ p ∈ ks, SqT K H p.1 [.int p.2.1, .int p.2.2]) ∧ ks ≠ [] ∧
  ∀ p, p ∈ ks → (∀ r ∈ ks, f r.2 p.2 = false) → Q (.ref p.1) H
theorem refs_of_valsP : ∀ {ks : List (Addr × (Int × Int))} {us : List Value}, Vals (ks.map fun p => V.ref p.1) us → us = ks.map fun p => Value.ref p.1
  | [], _, .nil => rfl
  | p :: ks, _, .cons r t => by
    cases r
    rw [refs_of_valsP t] <;> rfl
section
variable {X : Cx}
theorem cmpK_of {pins : List (Addr × Obj)} {σ : St} {H : Hp} {s : Shared} (I : Inv X pins σ H s) {ks : List (Addr × (Int × Int))} (hk : ∀ p ∈ ks, SqT X.K H p.1 [.int p.2.1, .int p.2.2]) {A : Around} (hu : A.units < cLine) :
    CmpK X.prog X.w A s.heap .Lt (ks.map fun p => Value.ref p.1) (fun i j => lexO ((ks.map (·.2)).getD i (0, 0)) ((ks.map (·.2)).getD j (0, 0))) ∧ CmpK X.prog X.w A s.heap .Gt (ks.map fun p => Value.ref p.1) (fun i j => lexO ((ks.map (·.2)).getD j (0, 0)) ((ks.map (·.2)).getD i (0, 0))) := by
  have at_ : ∀ {i : Nat} {u : Value} {s' : Shared}, (∀ b o, s.heap.get? b = some o → s'.heap.get? b = some o) → (ks.map fun p => Value.ref p.1)[i]? = some u → ∃ a, u = .ref a ∧ TS.TupInts s'.heap (.ref a) [((ks.map (·.2)).getD i (0, 0)).1, ((ks.map (·.2)).getD i (0, 0)).2] := by
    intro i u s' keep e
    rw [List.getElem?_map] at e
    obtain ⟨p, e1, rfl⟩ := Option.map_eq_some_iff.mp e
    refine ⟨p.1, rfl, ?_⟩
    have e2 : (ks.map (·.2)).getD i (0, 0) = p.2 := by rw [List.getD_eq_getElem?_getD, List.getElem?_map, e1] <;> rfl
    rw [e2]
    obtain ⟨c, its, ec, ⟨o, ho, hc, n, hd⟩, hi⟩ := tupI_raw I (ns := [p.2.1, p.2.2]) (hk p (List.mem_of_getElem? e1))
    exact ⟨c, its, ec, ⟨o, keep _ _ ho, hc, n, hd⟩, hi⟩
  refine ⟨fun i j u v s' Q E keep eu ev q => ?_, fun i j u v s' Q E keep eu ev q => ?_⟩
  · obtain ⟨a, rfl, ta⟩ := at_ keep eu
    obtain ⟨b, rfl, tb⟩ := at_ keep ev
    exact rich_lt_pair ta tb hu q
  · obtain ⟨a, rfl, ta⟩ := at_ keep eu
    obtain ⟨b, rfl, tb⟩ := at_ keep ev
    exact rich_gt_pair ta tb hu q
theorem getD_map2 {ks : List (Addr × (Int × Int))} {i : Nat} {p : Addr × (Int × Int)} (e : ks[i]? = some p) : (ks.map (·.2)).getD i (0, 0) = p.2 := by rw [List.getD_eq_getElem?_getD, List.getElem?_map, e] <;> rfl
theorem cr_minP (hc : X.calm = true) (hu : X.A.units + 8 < cLine) : CallR X (.builtin "min") (rMinP X.K lexO) := by
  rintro pins s σ H vs us Q I r ⟨a, ks, rfl, hs, hk, hne, q⟩
  obtain ⟨its, rv, hl, _⟩ := I.list hs
  rw [Vals.ref1 r]
  obtain rfl := refs_of_valsP rv
  have pos : 0 < ks.length := List.length_pos_iff.mpr hne
  refine pm_min (I.ok.hd hc) hl.isList (by rw [List.length_map]; exact pos) (cmpK_of I hk (by show X.A.units + 1 < cLine; omega)).1 fun v h' tk ev keep => ?_
  rw [List.getElem?_map] at ev
  obtain ⟨p, e1, rfl⟩ := Option.map_eq_some_iff.mp ev
  rw [List.length_map] at e1
  refine ⟨.ref p.1, H, I.kept keep, rfl, q p (List.mem_of_getElem? e1) fun r hr => ?_⟩
  obtain ⟨j, hj, er⟩ := List.mem_iff_getElem.mp hr
  have z := (argBest_lex (fun i => (ks.map (·.2)).getD i (0, 0)) (ks.length - 1)).2 j (by omega)
  rw [getD_map2 e1, getD_map2 (List.getElem?_eq_some_iff.mpr ⟨hj, er⟩)] at z
  exact z
theorem cr_maxP (hc : X.calm = true) (hu : X.A.units + 8 < cLine) : CallR X (.builtin "max") (rMinP X.K fun p q => lexO q p) := by
  rintro pins s σ H vs us Q I r ⟨a, ks, rfl, hs, hk, hne, q⟩
  obtain ⟨its, rv, hl, _⟩ := I.list hs
  rw [Vals.ref1 r]
  obtain rfl := refs_of_valsP rv
  have pos : 0 < ks.length := List.length_pos_iff.mpr hne
  refine pm_max (I.ok.hd hc) hl.isList (by rw [List.length_map]; exact pos) (cmpK_of I hk (by show X.A.units + 1 < cLine; omega)).2 fun v h' tk ev keep => ?_
  rw [List.getElem?_map] at ev
  obtain ⟨p, e1, rfl⟩ := Option.map_eq_some_iff.mp ev
  rw [List.length_map] at e1
  refine ⟨.ref p.1, H, I.kept keep, rfl, q p (List.mem_of_getElem? e1) fun r hr => ?_⟩
  obtain ⟨j, hj, er⟩ := List.mem_iff_getElem.mp hr
  have z := (argBest_gex (fun i => (ks.map (·.2)).getD i (0, 0)) (ks.length - 1)).2 j (by omega)
  rw [getD_map2 e1, getD_map2 (List.getElem?_eq_some_iff.mpr ⟨hj, er⟩)] at z
  exact z
end
end L2

set_option maxRecDepth 100000
set_option maxHeartbeats 1000000
/-! for a, b, c in zip(xs, ys, zs), lists -/
namespace L2
open PySem PySem.Spec PyProof.Rows
def ItZ3 (K : PySem.W.Frag) (a b c : Addr) : It :=
  ⟨fun i H => ∃ (xs ys zs : List V), SqL K H a xs ∧ SqL K H b ys ∧ SqL K H c zs ∧ i < xs.length ∧ i < ys.length ∧ i < zs.length,
    fun i H v H' => ∃ T x y z, v = .ref T ∧ H T = none ∧ H' = upd H T (.tup [x, y, z]) ∧ (∀ xs, SqL K H a xs → xs[i]? = some x) ∧ (∀ ys, SqL K H b ys → ys[i]? = some y) ∧ ∀ zs, SqL K H c zs → zs[i]? = some z,
    fun i H => ∃ xs ys zs : List V, SqL K H a xs ∧ SqL K H b ys ∧ SqL K H c zs ∧ xs.length = i ∧ ys.length = i ∧ zs.length = i⟩
theorem turn_zip3 {P : Program} {w : World} {K : PySem.W.Frag} {elts : List Expr} {kk : Nat} {tpos : Pos} {a b c z TI TO i1 i2 i3 : Addr} (ha : a ≠ i1) (hb : b ≠ i2) (hc : c ≠ i3) (S : ZipSep3 z TI TO i1 i2 i3 [i1, a] [i2, b] [i3, c]) :
    Turn P w K (.Tuple elts kk tpos) (ItZ3 K a b c) [z, TI, TO, i1, i2, i3] z (fun i h => IsZip h z TI TO .none ∧ IsTupOf3 h TI (.ref i1) (.ref i2) (.ref i3) ∧ (∃ a1 a2 a3, IsTupOf3 h TO a1 a2 a3) ∧ h.IsListIter i1 a i ∧ h.IsListIter i2 b i ∧ h.IsListIter i3 c i) where
  mem := by simp
  obj := fun i h st d hd => by
    obtain ⟨hz, hTI, ⟨x1, x2, x3, hTO⟩, ⟨o1, e1, _, d1⟩, ⟨o2, e2, _, d2⟩, ⟨o3, e3, _, d3⟩⟩ := st
    have e' : d = z ∨ d = TI ∨ d = TO ∨ d = i1 ∨ d = i2 ∨ d = i3 := by simpa using hd
    rcases e' with rfl | rfl | rfl | rfl | rfl | rfl
    · exact ⟨_, hz, fun v q => nomatch q⟩
    · exact ⟨_, hTI, fun v q => nomatch q⟩
    · exact ⟨_, hTO, fun v q => nomatch q⟩
    · exact ⟨o1, e1, fun v q => by rw [d1] at q; cases q⟩
    · exact ⟨o2, e2, fun v q => by rw [d2] at q; cases q⟩
    · exact ⟨o3, e3, fun v q => by rw [d3] at q; cases q⟩
  keep := fun i h h' st k => by
    obtain ⟨hz, hTI, ⟨x1, x2, x3, hTO⟩, h1, h2, h3⟩ := st
    exact ⟨k z (by simp) _ hz, k TI (by simp) _ hTI, ⟨x1, x2, x3, k TO (by simp) _ hTO⟩, h1.at fun o q => k i1 (by simp) o q, h2.at fun o q => k i2 (by simp) o q, h3.at fun o q => k i3 (by simp) o q⟩
  item := by
    intro X hP hw hK hcalm i pins s σ H E I hf st hg
    subst hP hw hK
    obtain ⟨hz, hTI, hTO, h1, h2, h3⟩ := st
    obtain ⟨xs, ys, zs, q1, q2, q3, l1, l2, l3⟩ := hg
    obtain ⟨t1, r1, p1, _⟩ := I.list q1
    obtain ⟨t2, r2, p2, _⟩ := I.list q2
    obtain ⟨t3, r3, p3, _⟩ := I.list q3
    have m1 := r1.length
    have m2 := r2.length
    have m3 := r3.length
    have hh := I.ok.hd hcalm
    have W := GoesN.zip3 (prog := X.prog) (w := X.w) (A := X.A) (elts := elts) (x1 := kk) (pos := tpos) S (Draws.list (A := X.A.in1) hh i1 a ha t1.toArray) (Draws.list (A := X.A.in1) hh i2 b hb t2.toArray) (Draws.list (A := X.A.in1) hh i3 c hc t3.toArray)
    refine W.goes i s _ _ ?_ ⟨hz, hTI, hTO, ⟨h1, p1.isList⟩, ⟨h2, p2.isList⟩, ⟨h3, p3.isList⟩⟩ fun v h' tk y st' keep _ => ?_
    · simp only [List.size_toArray]
      omega
    · obtain ⟨T, u1, u2, u3, rfl, hT, g1, g2, g3, hT3⟩ := y
      obtain ⟨hz', hTI', hTO', ⟨h1', _⟩, ⟨h2', _⟩, ⟨h3', _⟩⟩ := st'
      obtain ⟨x, hx⟩ : ∃ x, xs[i]? = some x := ⟨_, List.getElem?_eq_getElem l1⟩
      obtain ⟨y, hy⟩ : ∃ y, ys[i]? = some y := ⟨_, List.getElem?_eq_getElem l2⟩
      obtain ⟨w3, hw3⟩ : ∃ y, zs[i]? = some y := ⟨_, List.getElem?_eq_getElem l3⟩
      obtain ⟨v1, e1, f1⟩ := r1.get hx
      obtain ⟨v2, e2, f2⟩ := r2.get hy
      obtain ⟨v3, e3, f3⟩ := r3.get hw3
      have k1 : u1 = v1 := Option.some.inj ((by simpa using g1 : t1[i]? = some u1).symm.trans e1)
      have k2 : u2 = v2 := Option.some.inj ((by simpa using g2 : t2[i]? = some u2).symm.trans e2)
      have k3 : u3 = v3 := Option.some.inj ((by simpa using g3 : t3[i]? = some u3).symm.trans e3)
      subst k1 k2 k3
      have free : H T = none := I.hok.fresh hT
      have new : ObjOk X.prog X.w (upd H T (.tup [x, y, w3])) h' T (.tup [x, y, w3]) := ⟨by show 3 ≤ sizeLine; decide, [u1, u2, u3], .cons f1 (.cons f2 (.cons f3 .nil)), hT3⟩
      have sub : ∀ d, d ∉ [z, TI, TO, i1, i2, i3] → d ∉ [z, TO, i1, i2, i3] := fun d n m => n (by
        have e' : d = z ∨ d = TO ∨ d = i1 ∨ d = i2 ∨ d = i3 := by simpa using m
        rcases e' with rfl | rfl | rfl | rfl | rfl <;> simp)
      have I1 : Inv X pins σ (upd H T (.tup [x, y, w3])) { s with heap := h', toks := tk } := I.turnedNew (t' := tk) (ch := [z, TI, TO, i1, i2, i3]) (fun d o n q => keep d o (sub d n) q) hf hT new
      refine ⟨.ref T, _, I1, rfl, ⟨T, x, y, w3, rfl, free, rfl, fun l hl => by rw [I.list_inj hl q1]; exact hx, fun l hl => by rw [I.list_inj hl q2]; exact hy, fun l hl => by rw [I.list_inj hl q3]; exact hw3⟩, ⟨hz', hTI', hTO', h1', h2', h3'⟩, fun d hd => ?_⟩
      have lt : d < s.heap.objs.size := by
        have e' : d = z ∨ d = TI ∨ d = TO ∨ d = i1 ∨ d = i2 ∨ d = i3 := by simpa using hd
        obtain ⟨x1, x2, x3, hTO0⟩ := hTO
        rcases e' with rfl | rfl | rfl | rfl | rfl | rfl
        · exact Heap.lt_size hz
        · exact Heap.lt_size hTI
        · exact Heap.lt_size hTO0
        · obtain ⟨_, e1, _⟩ := h1; exact Heap.lt_size e1
        · obtain ⟨_, e2, _⟩ := h2; exact Heap.lt_size e2
        · obtain ⟨_, e3, _⟩ := h3; exact Heap.lt_size e3
      rw [upd_ne (Nat.ne_of_lt (Nat.lt_of_lt_of_le lt hT))]
      exact (hf d hd).1
  done := by
    intro X hP hw hK hcalm i pins s σ H E I hf st hg
    subst hP hw hK
    obtain ⟨hz, hTI, hTO, h1, h2, h3⟩ := st
    obtain ⟨xs, ys, zs, q1, q2, q3, l1, l2, l3⟩ := hg
    obtain ⟨t1, r1, p1, _⟩ := I.list q1
    obtain ⟨t2, r2, p2, _⟩ := I.list q2
    obtain ⟨t3, r3, p3, _⟩ := I.list q3
    have m1 := r1.length
    have m2 := r2.length
    have m3 := r3.length
    have hh := I.ok.hd hcalm
    have W := GoesN.zip3 (prog := X.prog) (w := X.w) (A := X.A) (elts := elts) (x1 := kk) (pos := tpos) S (Draws.list (A := X.A.in1) hh i1 a ha t1.toArray) (Draws.list (A := X.A.in1) hh i2 b hb t2.toArray) (Draws.list (A := X.A.in1) hh i3 c hc t3.toArray)
    have en : min (min t1.toArray.size t2.toArray.size) t3.toArray.size = i := by
      simp only [List.size_toArray]
      omega
    rw [en] at W
    refine W.stops s _ _ ⟨hz, hTI, hTO, ⟨h1, p1.isList⟩, ⟨h2, p2.isList⟩, ⟨h3, p3.isList⟩⟩ fun h' tk keep _ => ?_
    exact I.turnedL (t' := tk) (ch := [z, TI, TO, i1, i2, i3]) (fun d o n q => keep d o (fun m => n (by
      have e' : d = z ∨ d = TO ∨ d = i1 ∨ d = i2 ∨ d = i3 := by simpa using m
      rcases e' with rfl | rfl | rfl | rfl | rfl <;> simp)) q) hf
  self := fun A i s Q E st h => wpAny_pyIter_zip st.1 h
def iZip3 (K : PySem.W.Frag) (ta : TA) : TI := fun σ H R => ta σ H fun vs H1 => ∃ a b c xs ys zs, vs = [.ref a, .ref b, .ref c] ∧ SqL K H1 a xs ∧ SqL K H1 b ys ∧ SqL K H1 c zs ∧ R (ItZ3 K a b c) H1
theorem pi_zip3 {X : Cx} {e e2 e3 : Expr} {ta : TA} {p pos tpos : Pos} {elts : List Expr} {kk : Nat} (hg : Gl X "zip") (hm : X.mg "zip" = none) (ha : PA X [e, e2, e3] ta)
    (hs : starEach [e, e2, e3] X.env = (false, eval e X.env) :: starEach [e2, e3] X.env := by rfl) (hpl : (backTo pos (starEach [e2, e3] X.env)).any (·.1) = false := by rfl) :
    PI X (.Tuple elts kk tpos) (.Call (.Name "zip" p) [e, e2, e3] [] pos) (iZip3 X.K ta) := by
  refine ⟨fun pins s σ H R I h => ?_⟩
  refine Call_ (ld_blt I hg hm PyProof.Rows.boot_zip (PyProof.Rows.callWith_type1 (thn (ha.run pos pins s σ H _ I h) fun us s1 ⟨vs, H1, I1, r1, q1⟩ => ?_) hs hpl))
  obtain ⟨a, b, c, xs, ys, zs, rfl, q1, q2, q3, q⟩ := q1
  obtain ⟨u1, rest, rfl, f1, r2⟩ : ∃ u rest, us = u :: rest ∧ RelV (.ref a) u ∧ Vals [.ref b, .ref c] rest := by
    cases r1 with
    | cons r rr => exact ⟨_, _, rfl, r, rr⟩
  obtain ⟨u2, u3, rfl, f2, f3⟩ : ∃ u v, rest = [u, v] ∧ RelV (.ref b) u ∧ RelV (.ref c) v := by
    cases r2 with
    | cons r rr =>
      cases rr with
      | cons r' rr =>
        cases rr
        exact ⟨_, _, rfl, r, r'⟩
  cases f1
  cases f2
  cases f3
  obtain ⟨t1, g1, p1, _⟩ := I1.list q1
  obtain ⟨t2, g2, p2, _⟩ := I1.list q2
  obtain ⟨t3, g3, p3, _⟩ := I1.list q3
  have la : a < s1.heap.objs.size := p1.lt
  have lb : b < s1.heap.objs.size := p2.lt
  have lc : c < s1.heap.objs.size := p3.lt
  have S := zip_sep3 (N := s1.heap.objs.size) (fp1 := [a]) (fp2 := [b]) (fp3 := [c]) (fun d m => by rw [List.mem_singleton.mp m]; exact la) (fun d m => by rw [List.mem_singleton.mp m]; exact lb) (fun d m => by rw [List.mem_singleton.mp m]; exact lc)
  refine zip_begins3 (begins_list a t1.toArray) (begins_list b t2.toArray) (begins_list c t3.toArray) p1.isList p2.isList p3.isList fun h' hz hTI hTO e1 e2 e3 _ keep => wpAny_pyIter_zip hz ?_
  have I2 : Inv X pins σ H1 { s1 with heap := h' } := I1.kept (t' := s1.toks) keep
  refine ⟨s1.heap.objs.size + 5, [s1.heap.objs.size + 5, s1.heap.objs.size + 3, s1.heap.objs.size + 4, s1.heap.objs.size, s1.heap.objs.size + 1, s1.heap.objs.size + 2], _, _, H1, rfl, I2, turn_zip3 (Nat.ne_of_lt la) (Nat.ne_of_lt (Nat.lt_succ_of_lt lb)) (Nat.ne_of_lt (Nat.lt_succ_of_lt (Nat.lt_succ_of_lt lc))) S,
    ⟨hz, hTI, ⟨_, _, _, hTO⟩, ⟨_, e1, rfl, rfl⟩, ⟨_, e2, rfl, rfl⟩, ⟨_, e3, rfl, rfl⟩⟩, fun d hd => ?_, q⟩
  have le : s1.heap.objs.size ≤ d := by
    have e' : d = s1.heap.objs.size + 5 ∨ d = s1.heap.objs.size + 3 ∨ d = s1.heap.objs.size + 4 ∨ d = s1.heap.objs.size ∨ d = s1.heap.objs.size + 1 ∨ d = s1.heap.objs.size + 2 := by simpa using hd
    rcases e' with e | e | e | e | e | e <;> rw [e] <;> first | exact Nat.le_add_right _ _ | exact Nat.le_refl _
  exact I1.fpOk le (I1.hok.fresh le)
/-- the three at each turn -/
theorem walk_zip3 {K : PySem.W.Frag} {a b c : Addr} {xs ys zs : List V} {n : Nat} (h1 : xs.length = n) (h2 : ys.length = n) (h3 : zs.length = n) : Walk (ItZ3 K a b c) n (fun H => SqL K H a xs ∧ SqL K H b ys ∧ SqL K H c zs)
    (fun i H v H' => ∃ T x y z, v = .ref T ∧ H T = none ∧ H' = upd H T (.tup [x, y, z]) ∧ xs[i]? = some x ∧ ys[i]? = some y ∧ zs[i]? = some z) :=
  ⟨fun i _ hi q => ⟨xs, ys, zs, q.1, q.2.1, q.2.2, by omega, by omega, by omega⟩, fun _ q => ⟨xs, ys, zs, q.1, q.2.1, q.2.2, h1, h2, h3⟩,
    fun i H v H' _ q y => by
      obtain ⟨T, x, y, z, e1, e2, e3, g1, g2, g3⟩ := y
      exact ⟨T, x, y, z, e1, e2, e3, g1 xs q.1, g2 ys q.2.1, g3 zs q.2.2⟩⟩
end L2

set_option maxRecDepth 100000
set_option maxHeartbeats 1000000
set_option exponentiation.threshold 20000
namespace Fen
open PySem PySem.Spec PyProof.Rows L2
/-! points, each with the address of its tuple -/
abbrev Pts := List (Addr × Hull.P)
def refs (ks : Pts) : List V := ks.map fun p => V.ref p.1
def At (K : PySem.W.Frag) (H : Hp) (ks : Pts) : Prop := ∀ p ∈ ks, SqT K H p.1 [.int p.2.1, .int p.2.2]
theorem At.same {K : PySem.W.Frag} {H H' : Hp} {ks : Pts} (h : At K H ks) (s : Same H H') : At K H' ks := fun p hp => s.seqT (h p hp)
theorem At.sub {K : PySem.W.Frag} {H : Hp} {ks ls : Pts} (h : At K H ks) (s : ∀ p ∈ ls, p ∈ ks) : At K H ls := fun p hp => h p (s p hp)
/-- coordinates that can be multiplied -/
def Sm (p : Hull.P) : Prop := p.1.natAbs < 2 ^ 210 ∧ p.2.natAbs < 2 ^ 210
theorem refs_len (ks : Pts) : (refs ks).length = ks.length := List.length_map ..
theorem refs_get {ks : Pts} {i : Nat} {v : V} (h : (refs ks)[i]? = some v) : ∃ p, ks[i]? = some p ∧ v = .ref p.1 := by
  unfold refs at h
  rw [List.getElem?_map] at h
  obtain ⟨p, e, r⟩ := Option.map_eq_some_iff.mp h
  exact ⟨p, e, r.symm⟩
theorem refs_at {ks : Pts} {i : Nat} {p : Addr × Hull.P} (h : ks[i]? = some p) : (refs ks)[i]? = some (.ref p.1) := by
  unfold refs
  rw [List.getElem?_map, h]
  rfl
def popK (r : Hull.P) : Pts → Pts
  | b :: a :: rest => if Hull.turn a.2 b.2 r ≤ 0 then popK r (a :: rest) else b :: a :: rest
  | st => st
def pushK (st : Pts) (r : Addr × Hull.P) : Pts := r :: popK r.2 st
def halfK (ks : Pts) : Pts := ks.foldl pushK []
def hullK (ks : Pts) : Pts := (halfK ks).reverse.dropLast ++ (halfK ks.reverse).reverse.dropLast
theorem popK_one (r : Hull.P) (p : Addr × Hull.P) : popK r [p] = [p] := rfl
theorem popK_go {r : Hull.P} {b a : Addr × Hull.P} {rest : Pts} (h : Hull.turn a.2 b.2 r ≤ 0) : popK r (b :: a :: rest) = popK r (a :: rest) := by
  show (if Hull.turn a.2 b.2 r ≤ 0 then popK r (a :: rest) else b :: a :: rest) = _
  rw [if_pos h]
theorem popK_stay {r : Hull.P} {b a : Addr × Hull.P} {rest : Pts} (h : ¬ Hull.turn a.2 b.2 r ≤ 0) : popK r (b :: a :: rest) = b :: a :: rest := by
  show (if Hull.turn a.2 b.2 r ≤ 0 then popK r (a :: rest) else b :: a :: rest) = _
  rw [if_neg h]
theorem popK_snd (r : Hull.P) : ∀ st : Pts, (popK r st).map (·.2) = Hull.pop r (st.map (·.2))
  | [] => rfl
  | [p] => rfl
  | b :: a :: rest => by
    by_cases h : Hull.turn a.2 b.2 r ≤ 0
    · rw [popK_go h, popK_snd r (a :: rest)]
      show _ = (if Hull.turn a.2 b.2 r ≤ 0 then Hull.pop r ((a :: rest).map (·.2)) else _)
      rw [if_pos h]
    · rw [popK_stay h]
      show _ = (if Hull.turn a.2 b.2 r ≤ 0 then Hull.pop r ((a :: rest).map (·.2)) else _)
      rw [if_neg h]
      rfl
theorem popK_sub (r : Hull.P) : ∀ st : Pts, ∀ p ∈ popK r st, p ∈ st
  | [], p, hp => hp
  | [q], p, hp => hp
  | b :: a :: rest, p, hp => by
    by_cases h : Hull.turn a.2 b.2 r ≤ 0
    · rw [popK_go h] at hp
      exact List.mem_cons_of_mem _ (popK_sub r (a :: rest) p hp)
    · rw [popK_stay h] at hp
      exact hp
theorem popK_len (r : Hull.P) : ∀ st : Pts, (popK r st).length ≤ st.length
  | [] => Nat.le_refl _
  | [q] => Nat.le_refl _
  | b :: a :: rest => by
    by_cases h : Hull.turn a.2 b.2 r ≤ 0
    · rw [popK_go h]
      exact Nat.le_trans (popK_len r (a :: rest)) (by simp)
    · rw [popK_stay h]
      exact Nat.le_refl _
theorem fold_snd : ∀ (ks st : Pts), (ks.foldl pushK st).map (·.2) = (ks.map (·.2)).foldl Hull.push (st.map (·.2))
  | [], st => rfl
  | k :: ks, st => by
    show (ks.foldl pushK (pushK st k)).map (·.2) = (ks.map (·.2)).foldl Hull.push (Hull.push (st.map (·.2)) k.2)
    rw [fold_snd ks]
    show List.foldl Hull.push (k.2 :: (popK k.2 st).map (·.2)) _ = _
    rw [popK_snd]
    rfl
theorem half_snd (ks : Pts) : (halfK ks).map (·.2) = Hull.half (ks.map (·.2)) := fold_snd ks []
theorem fold_sub : ∀ (ks st : Pts), ∀ p ∈ ks.foldl pushK st, p ∈ ks ∨ p ∈ st
  | [], st, p, h => .inr h
  | k :: ks, st, p, h => by
    rcases fold_sub ks (pushK st k) p h with z | z
    · exact .inl (List.mem_cons_of_mem _ z)
    · rcases List.mem_cons.mp z with rfl | z
      · exact .inl List.mem_cons_self
      · exact .inr (popK_sub _ _ _ z)
theorem half_sub (ks : Pts) : ∀ p ∈ halfK ks, p ∈ ks := fun p h => (fold_sub ks [] p h).elim id fun z => nomatch z
theorem fold_len : ∀ (ks st : Pts), (ks.foldl pushK st).length ≤ ks.length + st.length
  | [], st => by simp
  | k :: ks, st => by
    have h := fold_len ks (pushK st k)
    have h2 : (pushK st k).length ≤ st.length + 1 := Nat.succ_le_succ (popK_len k.2 st)
    have h3 : (k :: ks).length = ks.length + 1 := rfl
    show (ks.foldl pushK (pushK st k)).length ≤ _
    omega
theorem half_len (ks : Pts) : (halfK ks).length ≤ ks.length := fold_len ks []
theorem half_snoc (ks : Pts) (p : Addr × Hull.P) : halfK (ks ++ [p]) = pushK (halfK ks) p := by
  unfold halfK
  rw [List.foldl_append]
  rfl
theorem take_succ_at {α : Type} {l : List α} {i : Nat} {x : α} (h : l[i]? = some x) : l.take (i + 1) = l.take i ++ [x] := by rw [List.take_succ, h] <;> rfl
theorem hullK_snd (ks : Pts) : (hullK ks).map (·.2) = Hull.hull (ks.map (·.2)) := by
  unfold hullK Hull.hull
  rw [List.map_append, ← half_snd, ← List.map_reverse (l := ks), ← half_snd]
  simp [List.map_reverse, List.map_dropLast]
theorem hullK_sub (ks : Pts) : ∀ p ∈ hullK ks, p ∈ ks := fun p h => by
  rcases List.mem_append.mp h with z | z
  · exact half_sub ks p (List.mem_reverse.mp (List.dropLast_subset _ z))
  · exact List.mem_reverse.mp (half_sub ks.reverse p (List.mem_reverse.mp (List.dropLast_subset _ z)))
/-- the lists as they stand in the heap -/
theorem refs_last {ks : Pts} {p : Addr × Hull.P} : (refs (p :: ks).reverse)[(refs (p :: ks).reverse).length - 1]? = some (.ref p.1) := by
  have e : refs (p :: ks).reverse = refs ks.reverse ++ [.ref p.1] := by simp [refs]
  rw [e, List.length_append, List.length_singleton, Nat.add_sub_cancel, List.getElem?_append_right (Nat.le_refl _), Nat.sub_self]
  rfl
theorem refs_drop {ks : Pts} {p : Addr × Hull.P} : (refs (p :: ks).reverse).dropLast = refs ks.reverse := by
  have e : refs (p :: ks).reverse = refs ks.reverse ++ [.ref p.1] := by simp [refs]
  rw [e, List.dropLast_concat]
theorem at_1 {ks : Pts} {p : Addr × Hull.P} : atI (refs (p :: ks).reverse) (-1) = some (.ref p.1) := by
  have e : refs (p :: ks).reverse = refs ks.reverse ++ [.ref p.1] := by simp [refs]
  rw [e]
  exact atI_last _ _
theorem atI_2 (xs : List V) (u v : V) : atI (xs ++ [u] ++ [v]) (-2) = some u := by
  have l : (xs ++ [u] ++ [v]).length = xs.length + 2 := by simp
  have e : ixN (xs ++ [u] ++ [v]).length (-2) = some xs.length := by
    rw [l]
    unfold ixN
    have c : ((-2 : Int) + ((xs.length + 2 : Nat) : Int)).toNat = xs.length := by omega
    simp
    omega
  unfold atI
  rw [e]
  show (xs ++ [u] ++ [v])[xs.length]? = some u
  rw [List.append_assoc, List.getElem?_append_right (Nat.le_refl _), Nat.sub_self]
  rfl
theorem at_2 {ks : Pts} {p q : Addr × Hull.P} : atI (refs (p :: q :: ks).reverse) (-2) = some (.ref q.1) := by
  have e : refs (p :: q :: ks).reverse = (refs ks.reverse ++ [.ref q.1]) ++ [.ref p.1] := by simp [refs]
  rw [e]
  exact atI_2 _ _ _
/-- a turn -/
def spTurn (K : PySem.W.Frag) : Sp := fun vs H Q _ => ∃ (a b c : Addr) (p q r : Hull.P), vs = [.ref a, .ref b, .ref c] ∧ SqT K H a [.int p.1, .int p.2] ∧ SqT K H b [.int q.1, .int q.2] ∧ SqT K H c [.int r.1, .int r.2] ∧ Sm p ∧ Sm q ∧ Sm r ∧ Q (.int (Hull.turn p q r)) H
/-- the chain over points -/
def spHalf (K : PySem.W.Frag) : Sp := fun vs H Q _ => ∃ (a : Addr) (ks : Pts), vs = [.ref a] ∧ SqL K H a (refs ks) ∧ At K H ks ∧ (∀ p ∈ ks, Sm p.2) ∧ ks.length ≤ 1000 ∧ ∀ H' w, Same H H' → H w = none → H' w = some (.lst (refs (halfK ks).reverse)) → Q (.ref w) H'
theorem dif_small {x y : Int} (h1 : x.natAbs < 2 ^ 210) (h2 : y.natAbs < 2 ^ 210) : (x - y).natAbs < 2 ^ 212 := by
  have e : (2 : Nat) ^ 212 = 4 * 2 ^ 210 := by decide
  omega
end Fen

set_option maxRecDepth 100000
set_option maxHeartbeats 1000000
set_option exponentiation.threshold 20000
namespace Fen
open PySem PySem.Spec PyProof.Rows L2
def enc (p : Addr × Hull.P) : Addr × List Int := (p.1, [p.2.1, p.2.2])
def dec (q : Addr × List Int) : Addr × Hull.P := (q.1, prOf q.2)
theorem dec_enc (p : Addr × Hull.P) : dec (enc p) = p := rfl
theorem refs_enc (ks : Pts) : (ks.map enc).map (fun p => V.ref p.1) = refs ks := by
  unfold refs
  rw [List.map_map]
  rfl
theorem asc_pts {ks : Pts} {L M : List (Addr × List Int)} (h1 : ∀ p ∈ L, p ∈ ks.map enc) (h2 : ∀ p ∈ ks.map enc, p.2 ∈ L.map (·.2)) (pm : M.Perm L) (nd : (M.map (·.2)).Nodup) (pw : M.Pairwise (fun q r => SrtO.lexB (prOf r.2) (prOf q.2) = false)) :
    M.map (fun q => V.ref q.1) = refs (M.map dec) ∧ (∀ p ∈ M.map dec, p ∈ ks) ∧ ((M.map dec).map (·.2)).Pairwise Hull.Lt ∧ ∀ x, x ∈ (M.map dec).map (·.2) ↔ x ∈ ks.map (·.2) := by
  have sub : ∀ q ∈ M, ∃ p ∈ ks, q = enc p := fun q hq => by
    obtain ⟨p, hp, e⟩ := List.mem_map.mp (h1 q (pm.mem_iff.mp hq))
    exact ⟨p, hp, e.symm⟩
  refine ⟨?_, fun p hp => ?_, ?_, fun x => ⟨fun hx => ?_, fun hx => ?_⟩⟩
  · unfold refs
    rw [List.map_map]
    rfl
  · obtain ⟨q, hq, rfl⟩ := List.mem_map.mp hp
    obtain ⟨p, hp2, rfl⟩ := sub q hq
    exact hp2
  · rw [List.map_map, List.pairwise_map]
    have both := List.Pairwise.and (List.pairwise_map.mp nd) pw
    refine List.Pairwise.imp_of_mem (fun {q r} hq hr z => ?_) both
    obtain ⟨p, _, rfl⟩ := sub q hq
    obtain ⟨p', _, rfl⟩ := sub r hr
    obtain ⟨ne, le⟩ := z
    have le2 := SrtO.lexB_no.mp le
    rcases Hull.Lt.total p.2 p'.2 with h | h | h
    · exact h
    · exact absurd (show [p.2.1, p.2.2] = [p'.2.1, p'.2.2] by rw [h]) ne
    · exact absurd h le2
  · obtain ⟨p, hp, rfl⟩ := List.mem_map.mp hx
    obtain ⟨q, hq, rfl⟩ := List.mem_map.mp hp
    obtain ⟨p, hp2, rfl⟩ := sub q hq
    exact List.mem_map.mpr ⟨p, hp2, rfl⟩
  · obtain ⟨p, hp, rfl⟩ := List.mem_map.mp hx
    obtain ⟨q, hq, e⟩ := List.mem_map.mp (h2 (enc p) (List.mem_map.mpr ⟨p, hp, rfl⟩))
    refine List.mem_map.mpr ⟨dec q, List.mem_map.mpr ⟨q, pm.mem_iff.mpr hq, rfl⟩, ?_⟩
    show prOf q.2 = p.2
    rw [e]
    rfl
/-- an ascending list is told by its members -/
theorem asc_uniq : ∀ {s t : List Hull.P}, s.Pairwise Hull.Lt → t.Pairwise Hull.Lt → (∀ x, x ∈ s ↔ x ∈ t) → s = t
  | [], [], _, _, _ => rfl
  | [], b :: t, _, _, h => absurd ((h b).mpr List.mem_cons_self) (by simp)
  | a :: s, [], _, _, h => absurd ((h a).mp List.mem_cons_self) (by simp)
  | a :: s, b :: t, hs, ht, h => by
    obtain ⟨s1, s2⟩ := List.pairwise_cons.mp hs
    obtain ⟨t1, t2⟩ := List.pairwise_cons.mp ht
    have e : a = b := by
      rcases List.mem_cons.mp ((h a).mp List.mem_cons_self) with z | z
      · exact z
      · rcases List.mem_cons.mp ((h b).mpr List.mem_cons_self) with y | y
        · exact y.symm
        · exact absurd ((t1 a z).trans (s1 b y)) Hull.Lt.irrefl
    subst e
    have h' : ∀ x, x ∈ s ↔ x ∈ t := fun x => by
      have hx := h x
      rw [List.mem_cons, List.mem_cons] at hx
      constructor
      · intro m
        rcases hx.mp (.inr m) with z | z
        · exact absurd (s1 x m) (fun l => l.ne z.symm)
        · exact z
      · intro m
        rcases hx.mpr (.inr m) with z | z
        · exact absurd (t1 x m) (fun l => l.ne z.symm)
        · exact z
    rw [asc_uniq s2 t2 h']
/-- the corners around an ascending list -/
def hul (s : List Hull.P) : List Hull.P := if s.length = 1 then s else Hull.hull s
theorem hull_two {a b : Hull.P} : Hull.hull [a, b] = [a, b] := by simp [Hull.hull, Hull.half, Hull.push, Hull.pop]
theorem hull_nil : Hull.hull [] = [] := rfl
theorem hul_few {s : List Hull.P} (h : s.length < 3) : hul s = s := by
  rcases s with _ | ⟨a, _ | ⟨b, _ | ⟨c, r⟩⟩⟩
  · rfl
  · rfl
  · exact hull_two
  · simp at h
    omega
/-- the promise of a def that tells the corners around points -/
def spHul (K : PySem.W.Frag) : Sp := fun vs H Q _ => ∃ (a : Addr) (ks : Pts), vs = [.ref a] ∧ SqL K H a (refs ks) ∧ At K H ks ∧ (∀ p ∈ ks, Sm p.2) ∧ ks.length < 64 ∧
  ∀ H' w (hs : Pts) (s : List Hull.P), Same H H' → H w = none → H' w = some (.lst (refs hs)) → (∀ p ∈ hs, p ∈ ks) → s.Pairwise Hull.Lt → (∀ x, x ∈ s ↔ x ∈ ks.map (·.2)) → hs.map (·.2) = hul s → Q (.ref w) H'
end Fen

set_option maxRecDepth 100000
set_option maxHeartbeats 1000000
set_option exponentiation.threshold 20000
namespace Fen
open PySem PySem.Spec PyProof.Rows L2
/-! points and fences as data -/
def ptD (p : Hull.P) : PyData := .tuple [.int p.1, .int p.2]
def ptsD (ps : List Hull.P) : PyData := .list (ps.map ptD)
def fenD (b : Int) (ps : List Hull.P) : PyData := .tuple [.int b, ptsD ps, .list []]
theorem dp_pt {K : PySem.W.Frag} {H : Hp} {a : Addr} {p : Hull.P} (h : SqT K H a [.int p.1, .int p.2]) : Dp K H (.ref a) (ptD p) := .tup h (.cons (.int _) (.cons (.int _) .nil))
theorem dp_all {K : PySem.W.Frag} {H : Hp} : ∀ {ks : Pts}, At K H ks → DpAll K H (refs ks) ((ks.map (·.2)).map ptD)
  | [], _ => .nil
  | p :: ks, h => .cons (dp_pt (h p List.mem_cons_self)) (dp_all fun q hq => h q (List.mem_cons_of_mem _ hq))
theorem dp_pts {K : PySem.W.Frag} {H : Hp} {a : Addr} {ks : Pts} (hS : SqL K H a (refs ks)) (hT : At K H ks) : Dp K H (.ref a) (ptsD (ks.map (·.2))) := .lst hS (dp_all hT)
theorem pts_lay : ∀ ps : List Hull.P, PyData.canLayAll0 (ps.map ptD) = true ∧ PyData.depthAll (ps.map ptD) ≤ 1
  | [] => ⟨rfl, by decide⟩
  | p :: ps => by
    have h := pts_lay ps
    refine ⟨by simp [PyData.canLayAll0, PyData.canLay0, ptD, h.1], ?_⟩
    simp only [List.map_cons, PyData.depthAll, ptD, PyData.depth]
    have := h.2
    omega
theorem shaped_pt (p : Hull.P) : SeqAt.shaped (ptD p) = true := by
  unfold SeqAt.shaped
  simp [ptD, PyData.canLay0, PyData.canLayAll0, PyData.depth, PyData.depthAll]
theorem shaped_pts (ps : List Hull.P) : SeqAt.shaped (ptsD ps) = true := by
  unfold SeqAt.shaped ptsD
  simp only [PyData.canLay0, PyData.depth, (pts_lay ps).1, Bool.true_and]
  exact decide_eq_true (by have := (pts_lay ps).2; omega)
theorem shaped_fen (b : Int) (ps : List Hull.P) : SeqAt.shaped (fenD b ps) = true := by
  have h := pts_lay ps
  unfold SeqAt.shaped fenD ptsD
  simp only [PyData.canLay0, PyData.canLayAll0, PyData.depth, PyData.depthAll, h.1, Bool.true_and, Bool.and_true]
  exact decide_eq_true (by have := h.2; omega)
theorem eqv_self {d : PyData} (h : SeqAt.shaped d = true) : PyData.eqv d d = true := SeqAt.eqv_refl _ (SeqAt.canLay_of_shaped h)
theorem eqv_nil (ps : List Hull.P) : PyData.eqv (ptsD ps) (.list []) = ps.isEmpty := by
  cases ps with
  | nil => exact eqv_self (shaped_pts [])
  | cons p ps => simp [ptsD, PyData.eqv, PyData.eqvAll]
theorem any_mem {p : Hull.P} {ps : List Hull.P} (h : p ∈ ps) : ((ps.map ptD).any fun z => PyData.eqv z (ptD p)) = true := List.any_eq_true.mpr ⟨ptD p, List.mem_map.mpr ⟨p, h, rfl⟩, eqv_self (shaped_pt p)⟩
/-- their texts -/
theorem int_show {i : Int} (h : i.natAbs < 10 ^ 31) : (PyData.int i).showable = true ∧ (PyData.int i).shown.length ≤ 40 := by
  have lg : i.natAbs.log2 < 1920 := Nat.lt_of_lt_of_le (PySem.Flt.log2_lt_of (by decide) (Nat.lt_trans h (by decide : 10 ^ 31 < 2 ^ 110))) (by decide)
  refine ⟨by simp [PyData.showable, lg], ?_⟩
  show (Str.ofString (toString i)).length ≤ 40
  rw [PySem.ofString_length]
  exact Nat.le_trans (PySem.int_text_length_le10 (k := 31) (by decide) h) (by decide)
def Sh (p : Hull.P) : Prop := p.1.natAbs < 10 ^ 31 ∧ p.2.natAbs < 10 ^ 31
theorem pt_show {p : Hull.P} (h : Sh p) : (ptD p).showable = true ∧ (ptD p).hasDict = false ∧ (ptD p).shown.length ≤ 87 := by
  obtain ⟨a1, a2⟩ := int_show h.1
  obtain ⟨b1, b2⟩ := int_show h.2
  refine ⟨by
    simp [PyData.showable] at a1 b1
    simp [ptD, PyData.showable, PyData.showableAll, a1, b1], rfl, ?_⟩
  have z := tupleText_len_le (PyData.shownAll [.int p.1, .int p.2])
  simp only [PyData.shownAll, List.map_cons, List.map_nil, List.sum_cons, List.sum_nil, List.length_cons, List.length_nil] at z
  show (tupleText (PyData.shownAll [.int p.1, .int p.2])).length ≤ 87
  simp only [PyData.shownAll]
  omega
theorem pts_show : ∀ {ps : List Hull.P}, (∀ p ∈ ps, Sh p) → PyData.showableAll (ps.map ptD) = true ∧ PyData.hasDictAll (ps.map ptD) = false ∧ ((PyData.shownAll (ps.map ptD)).map (·.length)).sum + 2 * (PyData.shownAll (ps.map ptD)).length ≤ 89 * ps.length
  | [], _ => ⟨rfl, rfl, by simp [PyData.shownAll]⟩
  | p :: ps, h => by
    obtain ⟨a1, a2, a3⟩ := pt_show (h p List.mem_cons_self)
    obtain ⟨b1, b2, b3⟩ := pts_show fun q hq => h q (List.mem_cons_of_mem _ hq)
    refine ⟨by simp [PyData.showableAll, a1, b1], by simp [PyData.hasDictAll, a2, b2], ?_⟩
    simp only [List.map_cons, PyData.shownAll, List.sum_cons, List.length_cons]
    omega
theorem fen_show {b : Int} {ps : List Hull.P} (hb : b.natAbs < 10 ^ 31) (h : ∀ p ∈ ps, Sh p) (l : ps.length ≤ 20) : (fenD b ps).showable = true ∧ (fenD b ps).hasDict = false ∧ (fenD b ps).shown.length ≤ sizeLine ∧ (fenD b ps).depth ≤ 20 := by
  obtain ⟨a1, a2⟩ := int_show hb
  obtain ⟨b1, b2, b3⟩ := pts_show h
  refine ⟨by
    simp [PyData.showable] at a1
    simp [fenD, ptsD, PyData.showable, PyData.showableAll, a1, b1], by simp [fenD, ptsD, PyData.hasDict, PyData.hasDictAll, b2], ?_, ?_⟩
  · have z1 := listText_len_le (PyData.shownAll (ps.map ptD))
    have z2 := tupleText_len_le (PyData.shownAll [.int b, ptsD ps, .list []])
    have z3 : (PyData.shown (.list [])).length ≤ 3 := by decide
    refine sz20 (Nat.le_trans z2 ?_)
    have z4 : (PyData.shown (ptsD ps)).length ≤ 89 * ps.length + 3 := Nat.le_trans z1 (by omega)
    simp only [PyData.shownAll, List.map_cons, List.map_nil, List.sum_cons, List.sum_nil, List.length_cons, List.length_nil]
    omega
  · have := (pts_lay ps).2
    simp only [fenD, ptsD, PyData.depth, PyData.depthAll]
    omega
end Fen

set_option maxRecDepth 100000
set_option maxHeartbeats 1000000
namespace Fen
open Hull (P turn Lt half push pop hull Poly)
theorem pop_some (r : P) : ∀ st : List P, st ≠ [] → pop r st ≠ []
  | [], h => absurd rfl h
  | [q], _ => by simp [pop]
  | b :: a :: rest, _ => by
    unfold pop
    split
    · exact pop_some r (a :: rest) (by simp)
    · simp
theorem pop_last (r : P) : ∀ st : List P, (pop r st).getLast? = st.getLast?
  | [] => rfl
  | [q] => rfl
  | b :: a :: rest => by
    unfold pop
    split
    · rw [pop_last r (a :: rest)]
      simp
    · rfl
theorem fold_last : ∀ (ps st : List P), st ≠ [] → (ps.foldl push st).getLast? = st.getLast? ∧ ps.foldl push st ≠ []
  | [], st, h => ⟨rfl, h⟩
  | r :: ps, st, h => by
    have e : push st r = r :: pop r st := rfl
    obtain ⟨h1, h2⟩ := fold_last ps (push st r) (by rw [e]; simp)
    refine ⟨?_, h2⟩
    show (ps.foldl push (push st r)).getLast? = _
    rw [h1, e, List.getLast?_cons_of_ne_nil (pop_some r st h), pop_last]
theorem half_last {m : P} {rest : List P} : (half (m :: rest)).getLast? = some m := (fold_last rest [m] (by simp)).1
theorem half_two {m x : P} {rest : List P} : 2 ≤ (half (m :: (rest ++ [x]))).length := by
  have e : half (m :: (rest ++ [x])) = x :: pop x (rest.foldl push [m]) := by
    show (rest ++ [x]).foldl push [m] = _
    rw [List.foldl_append]
    rfl
  have z := pop_some x (rest.foldl push [m]) (fold_last rest [m] (by simp)).2
  rw [e]
  have : 0 < (pop x (rest.foldl push [m])).length := List.length_pos_iff.mpr z
  simp only [List.length_cons]
  omega
theorem mem_dropLast {l : List P} {x : P} (h : l.getLast? = some x) (h2 : 2 ≤ l.length) : x ∈ l.reverse.dropLast := by
  obtain ⟨l', rfl⟩ : ∃ l', l = l' ++ [x] := by
    have := List.getLast?_eq_some_iff.mp h
    exact this
  rw [List.reverse_append]
  have : l'.reverse ≠ [] := by
    intro z
    rw [List.reverse_eq_nil_iff] at z
    rw [z] at h2
    simp at h2
  show x ∈ ([x] ++ l'.reverse).dropLast
  rw [List.dropLast_append_of_ne_nil this]
  exact List.mem_append_left _ (by simp)
/-- the least and the greatest are corners -/
theorem ends_in {m M : P} {mid : List P} : m ∈ hull (m :: (mid ++ [M])) ∧ M ∈ hull (m :: (mid ++ [M])) := by
  unfold hull
  refine ⟨List.mem_append_left _ (mem_dropLast half_last half_two), List.mem_append_right _ ?_⟩
  have e : (m :: (mid ++ [M])).reverse = M :: (mid.reverse ++ [m]) := by simp
  rw [e]
  exact mem_dropLast half_last half_two
structure Around (s c : List P) : Prop where
  le : ∃ m, c[0]? = some m ∧ m ∈ s ∧ ∀ x ∈ s, x ≠ m → Lt m x
  sub : ∀ x ∈ c, x ∈ s
  cs : (c.length = 1 ∧ ∃ m, c = [m] ∧ ∀ x ∈ s, x = m) ∨ (∃ a b, c = [a, b] ∧ b ∈ s ∧ (∀ x ∈ s, x ≠ b → Lt x b) ∧ ∀ x ∈ s, turn a b x = 0) ∨
    (3 ≤ c.length ∧ ∀ i a b d, i < c.length → c[i]? = some a → c[(i + 1) % c.length]? = some b → c[(i + 2) % c.length]? = some d → 0 < turn a b d ∧ ∀ x ∈ s, 0 ≤ turn a b x)
theorem around {s : List P} (hs : s.Pairwise Lt) (h1 : 1 ≤ s.length) : Around s (hul s) := by
  by_cases h : s.length = 1
  · obtain ⟨m, rfl⟩ : ∃ m, s = [m] := List.length_eq_one_iff.mp h
    have e : hul [m] = [m] := rfl
    rw [e]
    refine ⟨⟨m, rfl, by simp, fun x hx n => absurd (List.mem_singleton.mp hx) n⟩, fun x hx => hx, .inl ⟨rfl, m, rfl, fun x hx => List.mem_singleton.mp hx⟩⟩
  · have h2 : 2 ≤ s.length := by omega
    have e : hul s = hull s := if_neg h
    rw [e]
    have Y := Hull.poly hs h2
    obtain ⟨m, mid, M, rfl⟩ : ∃ m mid M, s = m :: (mid ++ [M]) := by
      cases s with
      | nil => simp at h2
      | cons m rest =>
        rcases Hull.last_cases rest with rfl | ⟨l', x, rfl⟩
        · simp at h2
        · exact ⟨m, l', x, rfl⟩
    obtain ⟨pm, pr⟩ := List.pairwise_cons.mp hs
    obtain ⟨_, _, pM⟩ := List.pairwise_append.mp pr
    have least : ∀ x ∈ m :: (mid ++ [M]), x ≠ m → Lt m x := fun x hx n => by
      rcases List.mem_cons.mp hx with z | z
      · exact absurd z n
      · exact pm x z
    have most : ∀ x ∈ m :: (mid ++ [M]), x ≠ M → Lt x M := fun x hx n => by
      rcases List.mem_cons.mp hx with z | z
      · rw [z]
        exact pm M (by simp)
      · rcases List.mem_append.mp z with y | y
        · exact pM x y M (by simp)
        · exact absurd (List.mem_singleton.mp y) n
    obtain ⟨m', e0, e1, _⟩ := Y.first
    obtain rfl : m = m' := Option.some.inj e1
    obtain ⟨inm, inM⟩ := ends_in (m := m) (mid := mid) (M := M)
    have mM : Lt m M := pm M (by simp)
    have two := Y.two
    refine ⟨⟨m, e0, by simp, least⟩, Y.mem, .inr ?_⟩
    generalize hull (m :: (mid ++ [M])) = c at *
    by_cases h3 : c.length = 2
    · left
      obtain ⟨a, b, rfl⟩ : ∃ a b, c = [a, b] := by
        rcases c with _ | ⟨a, _ | ⟨b, _ | ⟨d, r⟩⟩⟩
        · simp at h3
        · simp at h3
        · exact ⟨a, b, rfl⟩
        · simp at h3
      obtain rfl : a = m := Option.some.inj e0
      have eb : b = M := by
        rcases List.mem_cons.mp inM with z | z
        · exact absurd (z ▸ mM) Lt.irrefl
        · exact (List.mem_singleton.mp z).symm
      subst eb
      refine ⟨a, b, rfl, by simp, most, fun x hx => ?_⟩
      have w0 := Y.weak 0 (by simp) x hx
      have w1 := Y.weak 1 (by simp) x hx
      have w0' : 0 ≤ turn a b x := w0
      have w1' : 0 ≤ turn b a x := by simpa using w1
      rw [Hull.turn_swap] at w1'
      omega
    · right
      refine ⟨by omega, fun i a b d hi ea eb ed => ⟨?_, fun x hx => ?_⟩⟩
      · have ja : c[i] = a := Option.some.inj ((List.getElem?_eq_getElem hi).symm.trans ea)
        have lb : (i + 1) % c.length < c.length := Nat.mod_lt _ (by omega)
        have ld : (i + 2) % c.length < c.length := Nat.mod_lt _ (by omega)
        have jb : c[(i + 1) % c.length] = b := Option.some.inj ((List.getElem?_eq_getElem lb).symm.trans eb)
        have jd : c[(i + 2) % c.length] = d := Option.some.inj ((List.getElem?_eq_getElem ld).symm.trans ed)
        have n1 : (i + 2) % c.length ≠ i := fun z => by
          by_cases q : i + 2 < c.length
          · rw [Nat.mod_eq_of_lt q] at z
            omega
          · have : (i + 2) % c.length = i + 2 - c.length := by rw [Nat.mod_eq_sub_mod (by omega), Nat.mod_eq_of_lt (by omega)]
            omega
        have n2 : (i + 2) % c.length ≠ (i + 1) % c.length := fun z => by
          by_cases q : i + 2 < c.length
          · rw [Nat.mod_eq_of_lt q, Nat.mod_eq_of_lt (by omega)] at z
            omega
          · have e2 : (i + 2) % c.length = i + 2 - c.length := by rw [Nat.mod_eq_sub_mod (by omega), Nat.mod_eq_of_lt (by omega)]
            by_cases q1 : i + 1 < c.length
            · rw [Nat.mod_eq_of_lt q1] at z
              omega
            · have e1 : (i + 1) % c.length = i + 1 - c.length := by rw [Nat.mod_eq_sub_mod (by omega), Nat.mod_eq_of_lt (by omega)]
              omega
        have z := Y.strict i ((i + 2) % c.length) hi ld n1 n2
        rw [ja, jb, jd] at z
        exact z
      · have ja : c[i] = a := Option.some.inj ((List.getElem?_eq_getElem hi).symm.trans ea)
        have lb : (i + 1) % c.length < c.length := Nat.mod_lt _ (by omega)
        have jb : c[(i + 1) % c.length] = b := Option.some.inj ((List.getElem?_eq_getElem lb).symm.trans eb)
        have z := Y.weak i hi x hx
        rw [ja, jb] at z
        exact z
end Fen

set_option maxRecDepth 100000
set_option maxHeartbeats 1000000
set_option exponentiation.threshold 20000
namespace K2
open PySem PySem.Spec PyProof.Rows L2 Fen
def topS (i : Nat) : Stmt := PySem.Challenge.pw_growfences_k02_around_points.main.body.getD i (.Pass ⟨0, 0, 0, 0⟩)
abbrev sTurnP : Stmt := topS 6
theorem scTurnP : FnScope ["one", "two", "three"] ["one", "two", "three"] (defScope sTurnP) := ⟨rfl, rfl, rfl, by decide +kernel, rfl, by decide +kernel, by decide +kernel⟩
section
variable {P : Program} {w : World} {K : PySem.W.Frag} {mg : Str → Option Value} {base : Heap}
theorem ok_TurnP {f : Addr} {fd : FuncData} {k : Nat} (F : Fun K "turn" "turn" sTurnP f fd) : FnOk P w K mg base CX0 (k + 1) f fd ["one", "two", "three"] (spTurn K) := by
  refine F.ok scTurnP (fun vs H Q E h => ?_) (fun cdv A outer s H vs Q E hr h => ?_)
  · obtain ⟨a, b, c, p, q, r, rfl, _⟩ := h
    rfl
  · obtain ⟨a, b, c, p, q, r, rfl, ha, hb, hc, sp, sq, sr, k⟩ := h
    refine ⟨_, pss_one (ps_ret (pe_op op_sub (pe_op op_mulW (pe_op op_sub (pe_ix ix_tup (pv 1) pe_int (fun _ _ => rfl)) (pe_ix ix_tup (pv 0) pe_int (fun _ _ => rfl))) (pe_op op_sub (pe_ix ix_tup (pv 2) pe_int (fun _ _ => rfl)) (pe_ix ix_tup (pv 0) pe_int (fun _ _ => rfl)))) (pe_op op_mulW (pe_op op_sub (pe_ix ix_tup (pv 1) pe_int (fun _ _ => rfl)) (pe_ix ix_tup (pv 0) pe_int (fun _ _ => rfl))) (pe_op op_sub (pe_ix ix_tup (pv 2) pe_int (fun _ _ => rfl)) (pe_ix ix_tup (pv 0) pe_int (fun _ _ => rfl)))))), ?_⟩
    refine ⟨.ref b, rfl, b, _, 0, .int q.1, rfl, rfl, hb, rfl, .ref a, rfl, a, _, 0, .int p.1, rfl, rfl, ha, rfl, _, _, rfl, rfl, .ref c, rfl, c, _, 1, .int r.2, rfl, rfl, hc, rfl, .ref a, rfl, a, _, 1, .int p.2, rfl, rfl, ha, rfl, _, _, rfl, rfl, _, _, rfl, rfl, wide_mul (dif_small sq.1 sp.1) (dif_small sr.2 sp.2) (by decide) (by decide) (by decide), .ref b, rfl, b, _, 1, .int q.2, rfl, rfl, hb, rfl, .ref a, rfl, a, _, 1, .int p.2, rfl, rfl, ha, rfl, _, _, rfl, rfl, .ref c, rfl, c, _, 0, .int r.1, rfl, rfl, hc, rfl, .ref a, rfl, a, _, 0, .int p.1, rfl, rfl, ha, rfl, _, _, rfl, rfl, _, _, rfl, rfl, wide_mul (dif_small sq.2 sp.2) (dif_small sr.1 sp.1) (by decide) (by decide) (by decide), _, _, rfl, rfl, k⟩
end
abbrev sTurnL : Stmt := topS 26
theorem scTurnL : FnScope ["_law_one", "_law_two", "_law_three", "_law_right_here", "_law_up"] ["_law_one", "_law_two", "_law_three"] (defScope sTurnL) := ⟨rfl, rfl, rfl, by decide +kernel, rfl, by decide +kernel, by decide +kernel⟩
section
variable {P : Program} {w : World} {K : PySem.W.Frag} {mg : Str → Option Value} {base : Heap}
theorem ok_TurnL {f : Addr} {fd : FuncData} {k : Nat} (F : Fun K "_law_turn" "_law_turn" sTurnL f fd) : FnOk P w K mg base CX0 (k + 1) f fd ["_law_one", "_law_two", "_law_three"] (spTurn K) := by
  refine F.ok scTurnL (fun vs H Q E h => ?_) (fun cdv A outer s H vs Q E hr h => ?_)
  · obtain ⟨a, b, c, p, q, r, rfl, _⟩ := h
    rfl
  · obtain ⟨a, b, c, p, q, r, rfl, ha, hb, hc, sp, sq, sr, k⟩ := h
    refine ⟨_, pss_cons (ps_par (i := 3) (j := 4) rfl scTurnL.nd rfl rfl (by decide) rfl rfl (pa_cons (pe_op op_sub (pe_ix ix_tup (pv 1) pe_int (fun _ _ => rfl)) (pe_ix ix_tup (pv 0) pe_int (fun _ _ => rfl))) (pa_cons (pe_op op_sub (pe_ix ix_tup (pv 1) pe_int (fun _ _ => rfl)) (pe_ix ix_tup (pv 0) pe_int (fun _ _ => rfl))) pa_nil)) (by rfl)) (pss_one (ps_ret (pe_op op_sub (pe_op op_mulW (pv 3) (pe_op op_sub (pe_ix ix_tup (pv 2) pe_int (fun _ _ => rfl)) (pe_ix ix_tup (pv 0) pe_int (fun _ _ => rfl)))) (pe_op op_mulW (pv 4) (pe_op op_sub (pe_ix ix_tup (pv 2) pe_int (fun _ _ => rfl)) (pe_ix ix_tup (pv 0) pe_int (fun _ _ => rfl))))))), ?_⟩
    refine ⟨.ref b, rfl, b, _, 0, .int q.1, rfl, rfl, hb, rfl, .ref a, rfl, a, _, 0, .int p.1, rfl, rfl, ha, rfl, _, _, rfl, rfl, .ref b, rfl, b, _, 1, .int q.2, rfl, rfl, hb, rfl, .ref a, rfl, a, _, 1, .int p.2, rfl, rfl, ha, rfl, _, _, rfl, rfl, _, _, rfl, ?_⟩
    exact ⟨_, rfl, .ref c, rfl, c, _, 1, .int r.2, rfl, rfl, hc, rfl, .ref a, rfl, a, _, 1, .int p.2, rfl, rfl, ha, rfl, _, _, rfl, rfl, _, _, rfl, rfl, wide_mul (dif_small sq.1 sp.1) (dif_small sr.2 sp.2) (by decide) (by decide) (by decide), _, rfl, .ref c, rfl, c, _, 0, .int r.1, rfl, rfl, hc, rfl, .ref a, rfl, a, _, 0, .int p.1, rfl, rfl, ha, rfl, _, _, rfl, rfl, _, _, rfl, rfl, wide_mul (dif_small sq.2 sp.2) (dif_small sr.1 sp.1) (by decide) (by decide) (by decide), _, _, rfl, rfl, k⟩
end
abbrev sHalfP : Stmt := topS 7
theorem scHalfP : FnScope ["points", "way", "point"] ["points"] (defScope sHalfP) := ⟨rfl, rfl, rfl, by decide +kernel, rfl, by decide +kernel, by decide +kernel⟩
section
variable {P : Program} {w : World} {K : PySem.W.Frag} {mg : Str → Option Value} {base : Heap}
theorem ok_HalfP {f fT : Addr} {fd fdT : FuncData} {k : Nat} (F : Fun K "half_hull" "half_hull" sHalfP f fd) (FT : Fun K "turn" "turn" sTurnP fT fdT) (bT : Binds K fdT ["one", "two", "three"] []) (gT : mg "turn" = some (.ref fT)) (ml : mg "len" = none) :
    FnOk P w K mg base CX0 (k + 1 + 1) f fd ["points"] (spHalf K) := by
  have OT : FnOk P w K mg base CX0 1 fT fdT ["one", "two", "three"] (spTurn K) := ok_TurnP FT
  refine F.ok scHalfP (fun vs H Q E h => ?_) (fun cdv A outer s H vs Q E hr h => ?_)
  · obtain ⟨a, ks, rfl, _⟩ := h
    rfl
  · obtain ⟨a, ks, rfl, hS, hT, small, few, q⟩ := h
    have h1 : Room 1 (A.deeper (envOfC "half_hull" (defScope sHalfP) s.heap.objs.size f cdv)) := hr.mono (by omega)
    refine ⟨_, pss_cons (ps_set (i := 1) scHalfP.nd rfl (.inl rfl) (pe_lst pa_nil))
      (pss_cons (ps_for PassesOwn.never rfl (pi_list (pv 0)) (pg_name (i := 2) scHalfP.nd rfl (.inl rfl))
        (pss_cons (ps_while PassesOwn.never (PW.pt (pw_and (pt_cmpR op_gt (pe_callB call_len_seq (by rfl) ml PySem.boot_len (pa_cons (pv 1) pa_nil)) pe_int (nomark _))
            (pw_and1 (pt_cmpR op_le (pe_call OT h1 (by rfl) gT FT.kp bT .nil pass0 (pa_cons (pe_ix ix_list (pv 1) (pe_un un_neg pe_int) (fun _ _ => rfl)) (pa_cons (pe_ix ix_list (pv 1) (pe_un un_neg pe_int) (fun _ _ => rfl)) (pa_cons (pv 2) pa_nil)))) pe_int (nomark _)))))
            (pss_one (ps_expr (pe_bm0 PySem.F.plainAttrs_list PySem.F.slot_list_pop PySem.F.type_list_pop mt_pop (pv 1)))))
        (pss_one (ps_expr (pe_bm PySem.F.plainAttrs_list PySem.F.slot_list_append PySem.F.type_list_append mt_append (pv 1) (pa_cons (pv 2) pa_nil))))))
      (pss_one (ps_ret (pv 1)))), ?_⟩
    refine ⟨by show 0 ≤ sizeLine; decide, fun wa nw => ?_⟩
    have away : ∀ b o, H b = some o → b ≠ wa := fun b o e => ne_of_none e nw
    refine ⟨.ref a, rfl, a, rfl, ⟨_, (same_new nw).seq hS⟩, ?_⟩
    refine for_list (K := K) (a := a) (xs := refs ks) (fun i σ H3 => ∃ y2, σ = [some (.ref a), some (.ref wa), y2] ∧ SameX wa H H3 ∧ H3 wa = some (.lst (refs (halfK (ks.take i)).reverse))) ?_ ?_ ?_ ?_
    · exact ⟨none, rfl, (same_new nw).x, upd_same⟩
    · rintro i σ H3 _ ⟨y2, rfl, sx, _⟩
      exact (sx.same nw).seq hS
    · rintro i x σ H3 hx ⟨y2, rfl, sx, hw⟩
      obtain ⟨p, hp, rfl⟩ := refs_get hx
      have i1 : i < ks.length := (List.getElem?_eq_some_iff.mp hp).1
      have pm : p ∈ ks := List.mem_of_getElem? hp
      have stm : ∀ r ∈ halfK (ks.take i), r ∈ ks := fun r hr => List.mem_of_mem_take (half_sub _ r hr)
      have lst : (halfK (ks.take i)).length ≤ ks.length := Nat.le_trans (half_len _) (by rw [List.length_take]; omega)
      refine ⟨fun m σ' H' => ∃ st : Pts, st.length = m ∧ σ' = [some (.ref a), some (.ref wa), some (.ref p.1)] ∧ SameX wa H H' ∧ H' wa = some (.lst (refs st.reverse)) ∧ popK p.2 st = popK p.2 (halfK (ks.take i)) ∧ (∀ r ∈ st, r ∈ ks) ∧ st.length ≤ ks.length, ⟨_, _, rfl, rfl, sx, hw, rfl, stm, lst⟩, ?_⟩
      rintro m σ' H' ⟨st, em, rfl, sx2, hw2, ep, sub, ls⟩
      have at2 : At K H' ks := hT.same (sx2.same nw)
      have out : popK p.2 st = st → ∀ T : L2.St → Hp → Prop, (∀ H5, SameX wa H H5 → H5 wa = some (.lst (refs (halfK (ks.take (i + 1))).reverse)) → T [some (.ref a), some (.ref wa), some (.ref p.1)] H5) → T [some (.ref a), some (.ref wa), some (.ref p.1)] (upd H' wa (.lst (refs st.reverse ++ [.ref p.1]))) := fun e T t => by
        refine t _ (sx2.trans SameX.put) ?_
        rw [upd_same, take_succ_at hp, half_snoc]
        show some (HO.lst _) = some (.lst (refs (p :: popK p.2 (halfK (ks.take i))).reverse))
        rw [← ep, e]
        simp [refs]
      refine ⟨.ref wa, rfl, wa, _, rfl, .inl (SqL.of hw2), _, _, rfl, rfl, _, rfl, ite2 (fun c => ?_) (fun c => ?_)⟩
      · rw [refs_len, List.length_reverse] at c
        have c2 : 1 < (st.length : Int) := of_decide_eq_true c
        rcases st with _ | ⟨b, _ | ⟨d, rest⟩⟩
        · simp at c2
        · simp at c2
        · have mb : b ∈ ks := sub b List.mem_cons_self
          have md : d ∈ ks := sub d (List.mem_cons_of_mem _ List.mem_cons_self)
          refine ⟨.ref wa, rfl, _, rfl, wa, _, _, .ref d.1, rfl, rfl, SqL.of hw2, at_2, .ref wa, rfl, _, rfl, wa, _, _, .ref b.1, rfl, rfl, SqL.of hw2, at_1, .ref p.1, rfl, d.1, b.1, p.1, d.2, b.2, p.2, rfl, at2 d md, at2 b mb, at2 p pm, small d md, small b mb, small p pm, _, _, rfl, rfl, _, rfl, ite2 (fun c3 => ?_) (fun c3 => ?_)⟩
          · have c4 : Hull.turn d.2 b.2 p.2 ≤ 0 := of_decide_eq_true c3
            refine ⟨fun σ' H' => ∃ m', m' < m ∧ ∃ st : Pts, st.length = m' ∧ σ' = [some (.ref a), some (.ref wa), some (.ref p.1)] ∧ SameX wa H H' ∧ H' wa = some (.lst (refs st.reverse)) ∧ popK p.2 st = popK p.2 (halfK (ks.take i)) ∧ (∀ r ∈ st, r ∈ ks) ∧ st.length ≤ ks.length, fun σ' H' z => z, ?_⟩
            refine ⟨.ref wa, rfl, .inl ⟨rfl, _, SqL.of hw2⟩, wa, _, _, rfl, rfl, hw2, refs_last, (d :: rest).length, ?_, d :: rest, rfl, rfl, sx2.trans SameX.put, ?_, ?_, fun r hr => sub r (List.mem_cons_of_mem _ hr), ?_⟩
            · rw [← em]
              exact Nat.lt_succ_self _
            · rw [upd_same, refs_drop]
            · rw [← ep, popK_go c4]
            · exact Nat.le_trans (Nat.le_succ _) ls
          · have c4 : ¬ Hull.turn d.2 b.2 p.2 ≤ 0 := fun z => c3 (decide_eq_true z)
            refine ⟨.ref wa, rfl, .inl ⟨rfl, _, SqL.of hw2⟩, .ref p.1, rfl, wa, _, .ref p.1, rfl, rfl, hw2, by rw [refs_len, List.length_reverse]; exact sz20 (by omega), ?_⟩
            exact out (popK_stay c4) _ fun H5 s5 e5 => ⟨_, rfl, s5, e5⟩
      · refine iteF ?_
        refine ⟨.ref wa, rfl, .inl ⟨rfl, _, SqL.of hw2⟩, .ref p.1, rfl, wa, _, .ref p.1, rfl, rfl, hw2, by rw [refs_len, List.length_reverse]; exact sz20 (by omega), ?_⟩
        refine out ?_ _ fun H5 s5 e5 => ⟨_, rfl, s5, e5⟩
        rw [refs_len, List.length_reverse] at c
        rcases st with _ | ⟨b, _ | ⟨d, rest⟩⟩
        · rfl
        · rfl
        · exfalso
          refine c (decide_eq_true ?_)
          simp
          omega
    · rintro σ H3 ⟨y2, rfl, sx, hw⟩
      rw [refs_len, List.take_length] at hw
      exact ⟨_, rfl, q _ wa (sx.same nw) nw hw⟩
end
end K2

set_option maxRecDepth 100000
set_option maxHeartbeats 1000000
set_option exponentiation.threshold 20000
namespace K2
open PySem PySem.Spec PyProof.Rows L2 Fen
abbrev sHalfL : Stmt := topS 27
theorem scHalfL : FnScope ["_law_points_here", "_law_found", "_law_point"] ["_law_points_here"] (defScope sHalfL) := ⟨rfl, rfl, rfl, by decide +kernel, rfl, by decide +kernel, by decide +kernel⟩
section
variable {P : Program} {w : World} {K : PySem.W.Frag} {mg : Str → Option Value} {base : Heap}
theorem ok_HalfL {f fT : Addr} {fd fdT : FuncData} {k : Nat} (F : Fun K "_law_half" "_law_half" sHalfL f fd) (FT : Fun K "_law_turn" "_law_turn" sTurnL fT fdT) (bT : Binds K fdT ["_law_one", "_law_two", "_law_three"] []) (gT : mg "_law_turn" = some (.ref fT)) (ml : mg "len" = none) :
    FnOk P w K mg base CX0 (k + 1 + 1) f fd ["_law_points_here"] (spHalf K) := by
  have OT : FnOk P w K mg base CX0 1 fT fdT ["_law_one", "_law_two", "_law_three"] (spTurn K) := ok_TurnL FT
  refine F.ok scHalfL (fun vs H Q E h => ?_) (fun cdv A outer s H vs Q E hr h => ?_)
  · obtain ⟨a, ks, rfl, _⟩ := h
    rfl
  · obtain ⟨a, ks, rfl, hS, hT, small, few, q⟩ := h
    have h1 : Room 1 (A.deeper (envOfC "_law_half" (defScope sHalfL) s.heap.objs.size f cdv)) := hr.mono (by omega)
    refine ⟨_, pss_cons (ps_set (i := 1) scHalfL.nd rfl (.inl rfl) (pe_lst pa_nil))
      (pss_cons (ps_for PassesOwn.never rfl (pi_list (pv 0)) (pg_name (i := 2) scHalfL.nd rfl (.inl rfl))
        (pss_cons (ps_while PassesOwn.never (PW.pt (pw_and (pt_cmpR op_gt (pe_callB call_len_seq (by rfl) ml PySem.boot_len (pa_cons (pv 1) pa_nil)) pe_int (nomark _))
            (pw_and1 (pt_cmpR op_le (pe_call OT h1 (by rfl) gT FT.kp bT .nil pass0 (pa_cons (pe_ix ix_list (pv 1) (pe_un un_neg pe_int) (fun _ _ => rfl)) (pa_cons (pe_ix ix_list (pv 1) (pe_un un_neg pe_int) (fun _ _ => rfl)) (pa_cons (pv 2) pa_nil)))) pe_int (nomark _)))))
            (pss_one (ps_expr (pe_bm0 PySem.F.plainAttrs_list PySem.F.slot_list_pop PySem.F.type_list_pop mt_pop (pv 1)))))
        (pss_one (ps_expr (pe_bm PySem.F.plainAttrs_list PySem.F.slot_list_append PySem.F.type_list_append mt_append (pv 1) (pa_cons (pv 2) pa_nil))))))
      (pss_one (ps_ret (pv 1)))), ?_⟩
    refine ⟨by show 0 ≤ sizeLine; decide, fun wa nw => ?_⟩
    have away : ∀ b o, H b = some o → b ≠ wa := fun b o e => ne_of_none e nw
    refine ⟨.ref a, rfl, a, rfl, ⟨_, (same_new nw).seq hS⟩, ?_⟩
    refine for_list (K := K) (a := a) (xs := refs ks) (fun i σ H3 => ∃ y2, σ = [some (.ref a), some (.ref wa), y2] ∧ SameX wa H H3 ∧ H3 wa = some (.lst (refs (halfK (ks.take i)).reverse))) ?_ ?_ ?_ ?_
    · exact ⟨none, rfl, (same_new nw).x, upd_same⟩
    · rintro i σ H3 _ ⟨y2, rfl, sx, _⟩
      exact (sx.same nw).seq hS
    · rintro i x σ H3 hx ⟨y2, rfl, sx, hw⟩
      obtain ⟨p, hp, rfl⟩ := refs_get hx
      have i1 : i < ks.length := (List.getElem?_eq_some_iff.mp hp).1
      have pm : p ∈ ks := List.mem_of_getElem? hp
      have stm : ∀ r ∈ halfK (ks.take i), r ∈ ks := fun r hr => List.mem_of_mem_take (half_sub _ r hr)
      have lst : (halfK (ks.take i)).length ≤ ks.length := Nat.le_trans (half_len _) (by rw [List.length_take]; omega)
      refine ⟨fun m σ' H' => ∃ st : Pts, st.length = m ∧ σ' = [some (.ref a), some (.ref wa), some (.ref p.1)] ∧ SameX wa H H' ∧ H' wa = some (.lst (refs st.reverse)) ∧ popK p.2 st = popK p.2 (halfK (ks.take i)) ∧ (∀ r ∈ st, r ∈ ks) ∧ st.length ≤ ks.length, ⟨_, _, rfl, rfl, sx, hw, rfl, stm, lst⟩, ?_⟩
      rintro m σ' H' ⟨st, em, rfl, sx2, hw2, ep, sub, ls⟩
      have at2 : At K H' ks := hT.same (sx2.same nw)
      have out : popK p.2 st = st → ∀ T : L2.St → Hp → Prop, (∀ H5, SameX wa H H5 → H5 wa = some (.lst (refs (halfK (ks.take (i + 1))).reverse)) → T [some (.ref a), some (.ref wa), some (.ref p.1)] H5) → T [some (.ref a), some (.ref wa), some (.ref p.1)] (upd H' wa (.lst (refs st.reverse ++ [.ref p.1]))) := fun e T t => by
        refine t _ (sx2.trans SameX.put) ?_
        rw [upd_same, take_succ_at hp, half_snoc]
        show some (HO.lst _) = some (.lst (refs (p :: popK p.2 (halfK (ks.take i))).reverse))
        rw [← ep, e]
        simp [refs]
      refine ⟨.ref wa, rfl, wa, _, rfl, .inl (SqL.of hw2), _, _, rfl, rfl, _, rfl, ite2 (fun c => ?_) (fun c => ?_)⟩
      · rw [refs_len, List.length_reverse] at c
        have c2 : 1 < (st.length : Int) := of_decide_eq_true c
        rcases st with _ | ⟨b, _ | ⟨d, rest⟩⟩
        · simp at c2
        · simp at c2
        · have mb : b ∈ ks := sub b List.mem_cons_self
          have md : d ∈ ks := sub d (List.mem_cons_of_mem _ List.mem_cons_self)
          refine ⟨.ref wa, rfl, _, rfl, wa, _, _, .ref d.1, rfl, rfl, SqL.of hw2, at_2, .ref wa, rfl, _, rfl, wa, _, _, .ref b.1, rfl, rfl, SqL.of hw2, at_1, .ref p.1, rfl, d.1, b.1, p.1, d.2, b.2, p.2, rfl, at2 d md, at2 b mb, at2 p pm, small d md, small b mb, small p pm, _, _, rfl, rfl, _, rfl, ite2 (fun c3 => ?_) (fun c3 => ?_)⟩
          · have c4 : Hull.turn d.2 b.2 p.2 ≤ 0 := of_decide_eq_true c3
            refine ⟨fun σ' H' => ∃ m', m' < m ∧ ∃ st : Pts, st.length = m' ∧ σ' = [some (.ref a), some (.ref wa), some (.ref p.1)] ∧ SameX wa H H' ∧ H' wa = some (.lst (refs st.reverse)) ∧ popK p.2 st = popK p.2 (halfK (ks.take i)) ∧ (∀ r ∈ st, r ∈ ks) ∧ st.length ≤ ks.length, fun σ' H' z => z, ?_⟩
            refine ⟨.ref wa, rfl, .inl ⟨rfl, _, SqL.of hw2⟩, wa, _, _, rfl, rfl, hw2, refs_last, (d :: rest).length, ?_, d :: rest, rfl, rfl, sx2.trans SameX.put, ?_, ?_, fun r hr => sub r (List.mem_cons_of_mem _ hr), ?_⟩
            · rw [← em]
              exact Nat.lt_succ_self _
            · rw [upd_same, refs_drop]
            · rw [← ep, popK_go c4]
            · exact Nat.le_trans (Nat.le_succ _) ls
          · have c4 : ¬ Hull.turn d.2 b.2 p.2 ≤ 0 := fun z => c3 (decide_eq_true z)
            refine ⟨.ref wa, rfl, .inl ⟨rfl, _, SqL.of hw2⟩, .ref p.1, rfl, wa, _, .ref p.1, rfl, rfl, hw2, by rw [refs_len, List.length_reverse]; exact sz20 (by omega), ?_⟩
            exact out (popK_stay c4) _ fun H5 s5 e5 => ⟨_, rfl, s5, e5⟩
      · refine iteF ?_
        refine ⟨.ref wa, rfl, .inl ⟨rfl, _, SqL.of hw2⟩, .ref p.1, rfl, wa, _, .ref p.1, rfl, rfl, hw2, by rw [refs_len, List.length_reverse]; exact sz20 (by omega), ?_⟩
        refine out ?_ _ fun H5 s5 e5 => ⟨_, rfl, s5, e5⟩
        rw [refs_len, List.length_reverse] at c
        rcases st with _ | ⟨b, _ | ⟨d, rest⟩⟩
        · rfl
        · rfl
        · exfalso
          refine c (decide_eq_true ?_)
          simp
          omega
    · rintro σ H3 ⟨y2, rfl, sx, hw⟩
      rw [refs_len, List.take_length] at hw
      exact ⟨_, rfl, q _ wa (sx.same nw) nw hw⟩
end
abbrev sHullP : Stmt := topS 8
theorem scHullP : FnScope ["points", "ascending"] ["points"] (defScope sHullP) := ⟨rfl, rfl, rfl, by decide +kernel, rfl, by decide +kernel, by decide +kernel⟩
section
variable {P : Program} {w : World} {K : PySem.W.Frag} {mg : Str → Option Value} {base : Heap}
theorem ok_HullP {f fH : Addr} {fd fdH : FuncData} {k : Nat} (F : Fun K "convex_hull" "convex_hull" sHullP f fd) (OH : FnOk P w K mg base CX0 (k + 1) fH fdH ["points"] (spHalf K)) (kH : PySem.W.keepIn K (.ref fH) = true) (bH : Binds K fdH ["points"] []) (gH : mg "half_hull" = some (.ref fH)) (ml : mg "len" = none) (ms : mg "sorted" = none) (mt : mg "set" = none) :
    FnOk P w K mg base CX0 (k + 1 + 1) f fd ["points"] (spHul K) := by
  refine F.ok scHullP (fun vs H Q E h => ?_) (fun cdv A outer s H vs Q E hr h => ?_)
  · obtain ⟨a, ks, rfl, _⟩ := h
    rfl
  · obtain ⟨a, ks, rfl, hS, hT, small, few, q⟩ := h
    refine ⟨_, pss_cons (ps_set (i := 1) scHullP.nd rfl (.inl rfl) (pe_callB (cr_sortedSP rfl) (by rfl) ms (by decide +kernel) (pa_cons (pe_callTy (cr_setOfT rfl (hu_of64 hr)) (by rfl) mt (by decide +kernel) (pa_cons (pv 0) pa_nil)) pa_nil)))
      (pss_cons (ps_if (pt_cmpR op_eq (pe_callB call_len_seq (by rfl) ml PySem.boot_len (pa_cons (pv 1) pa_nil)) pe_int (nomark _)) (pss_one (ps_ret (pv 1))) pss_nil)
      (pss_one (ps_ret (pe_op op_cat (pe_slice sl_list (pe_call OH hr (by rfl) gH kH bH .nil pass0 (pa_cons (pv 1) pa_nil)) po_none (po_some (pe_un un_neg pe_int))) (pe_slice sl_list (pe_call OH hr (by rfl) gH kH bH .nil pass0 (pa_cons (pe_revL (pv 1)) pa_nil)) po_none (po_some (pe_un un_neg pe_int))))))), ?_⟩
    refine ⟨.ref a, rfl, a, ks.map enc, rfl, by rw [refs_enc]; exact hS, fun p hp => ?_, by rw [List.length_map]; exact few, fun sa L ns h1 h2 => ?_⟩
    · obtain ⟨r, hr2, rfl⟩ := List.mem_map.mp hp
      exact hT r hr2
    refine ⟨sa, L, rfl, upd_same, fun p hp => ?_, fun p hp => ?_, fun M wa pm nd l64 pw nw => ?_⟩
    · obtain ⟨r, hr2, rfl⟩ := List.mem_map.mp (h1 p hp)
      exact (same_new ns).seqT (hT r hr2)
    · obtain ⟨r, hr2, rfl⟩ := List.mem_map.mp (h1 p hp)
      exact ⟨_, _, rfl⟩
    obtain ⟨e1, sub, asc, mem⟩ := asc_pts h1 h2 pm nd pw
    rw [e1]
    generalize M.map dec = hs at e1 sub asc mem ⊢
    have len : hs.length = M.length := by
      have := congrArg List.length e1
      rw [List.length_map, refs_len] at this
      exact this.symm
    have s1 : Same H (upd (upd H sa (SetTO _ _ sa L)) wa (.lst (refs hs))) := (same_new ns).trans (same_new nw)
    generalize hH1 : upd (upd H sa (SetTO _ _ sa L)) wa (.lst (refs hs)) = H1 at s1 ⊢
    have hw : H1 wa = some (.lst (refs hs)) := by
      rw [← hH1]
      exact upd_same
    have nw1 : H wa = none := (same_new ns).free nw
    refine ⟨.ref wa, rfl, wa, _, rfl, .inl (SqL.of hw), rfl, _, rfl, ite2 (fun c => ?_) (fun c => ?_)⟩
    · refine ⟨_, rfl, q _ wa hs (hs.map (·.2)) s1 nw1 hw sub asc mem ?_⟩
      rw [refs_len] at c
      exact (show hul (hs.map (·.2)) = hs.map (·.2) from by have c2 : (hs.length : Int) = 1 := V.int.inj (of_decide_eq_true c); exact if_pos (by rw [List.length_map]; omega)).symm
    · rw [refs_len] at c
      refine ⟨.ref wa, rfl, wa, hs, rfl, SqL.of hw, (hT.sub sub).same s1, fun p hp => small p (sub p hp), by omega, fun H2 x s2 nx hx => ?_⟩
      refine ⟨1, rfl, -1, rfl, x, _, rfl, SqL.of hx, fun y ny => ?_⟩
      rw [cut_last]
      refine ⟨.ref wa, rfl, wa, refs hs, rfl, SqL.of (((s2.trans (same_new ny))) _ _ hw), fun z nz => ?_⟩
      have s3 := (s2.trans (same_new ny)).trans (same_new (o := .lst (refs hs).reverse) nz)
      refine ⟨z, hs.reverse, rfl, SqL.of (by rw [upd_same]; simp [refs]), ((hT.sub sub).same (s1.trans s3)).sub (fun p hp => List.mem_reverse.mp hp), fun p hp => small p (sub p (List.mem_reverse.mp hp)), by rw [List.length_reverse]; omega, fun H4 u s4 nu hu => ?_⟩
      refine ⟨1, rfl, -1, rfl, u, _, rfl, SqL.of hu, fun v nv => ?_⟩
      rw [cut_last]
      have hy : (upd H4 v (.lst (refs (halfK hs.reverse).reverse).dropLast)) y = some (.lst (refs (halfK hs).reverse).dropLast) := (((same_new nz).trans s4).trans (same_new nv)) _ _ upd_same
      have b1 := half_len hs
      have b2 := half_len hs.reverse
      rw [List.length_reverse] at b2
      refine ⟨y, v, _, _, rfl, rfl, hy, upd_same, ?_, fun t nt => ?_⟩
      · rw [List.length_dropLast, List.length_dropLast, refs_len, refs_len, List.length_reverse, List.length_reverse]
        exact sz20 (by omega)
      · have e5 : (refs (halfK hs).reverse).dropLast ++ (refs (halfK hs.reverse).reverse).dropLast = refs (hullK hs) := by
          unfold hullK refs
          rw [List.map_append, List.map_dropLast, List.map_dropLast]
        rw [e5]
        refine q _ t (hullK hs) (hs.map (·.2)) (s1.trans (s3.trans (s4.trans ((same_new nv).trans (same_new nt))))) ((s1.trans (s3.trans (s4.trans (same_new nv)))).free nt) upd_same (fun p hp => sub p (hullK_sub hs p hp)) asc mem ?_
        rw [hullK_snd]
        unfold hul
        rw [if_neg (by rw [List.length_map]; intro z; exact c (decide_eq_true (by rw [z]; rfl)))]
end
abbrev sHullL : Stmt := topS 28
theorem scHullL : FnScope ["_law_points_here", "_law_some"] ["_law_points_here"] (defScope sHullL) := ⟨rfl, rfl, rfl, by decide +kernel, rfl, by decide +kernel, by decide +kernel⟩
section
variable {P : Program} {w : World} {K : PySem.W.Frag} {mg : Str → Option Value} {base : Heap}
theorem ok_HullL {f fH : Addr} {fd fdH : FuncData} {k : Nat} (F : Fun K "_law_hull" "_law_hull" sHullL f fd) (OH : FnOk P w K mg base CX0 (k + 1) fH fdH ["_law_points_here"] (spHalf K)) (kH : PySem.W.keepIn K (.ref fH) = true) (bH : Binds K fdH ["_law_points_here"] []) (gH : mg "_law_half" = some (.ref fH)) (ml : mg "len" = none) (ms : mg "sorted" = none) (mt : mg "set" = none) :
    FnOk P w K mg base CX0 (k + 1 + 1) f fd ["_law_points_here"] (spHul K) := by
  refine F.ok scHullL (fun vs H Q E h => ?_) (fun cdv A outer s H vs Q E hr h => ?_)
  · obtain ⟨a, ks, rfl, _⟩ := h
    rfl
  · obtain ⟨a, ks, rfl, hS, hT, small, few, q⟩ := h
    refine ⟨_, pss_cons (ps_set (i := 1) scHullL.nd rfl (.inl rfl) (pe_callB (cr_sortedSP rfl) (by rfl) ms (by decide +kernel) (pa_cons (pe_callTy (cr_setOfT rfl (hu_of64 hr)) (by rfl) mt (by decide +kernel) (pa_cons (pv 0) pa_nil)) pa_nil)))
      (pss_cons (ps_if (pt_cmpR op_lt (pe_callB call_len_seq (by rfl) ml PySem.boot_len (pa_cons (pv 1) pa_nil)) pe_int (nomark _)) (pss_one (ps_ret (pv 1))) pss_nil)
      (pss_one (ps_ret (pe_op op_cat (pe_slice sl_list (pe_call OH hr (by rfl) gH kH bH .nil pass0 (pa_cons (pv 1) pa_nil)) po_none (po_some (pe_un un_neg pe_int))) (pe_slice sl_list (pe_call OH hr (by rfl) gH kH bH .nil pass0 (pa_cons (pe_revL (pv 1)) pa_nil)) po_none (po_some (pe_un un_neg pe_int))))))), ?_⟩
    refine ⟨.ref a, rfl, a, ks.map enc, rfl, by rw [refs_enc]; exact hS, fun p hp => ?_, by rw [List.length_map]; exact few, fun sa L ns h1 h2 => ?_⟩
    · obtain ⟨r, hr2, rfl⟩ := List.mem_map.mp hp
      exact hT r hr2
    refine ⟨sa, L, rfl, upd_same, fun p hp => ?_, fun p hp => ?_, fun M wa pm nd l64 pw nw => ?_⟩
    · obtain ⟨r, hr2, rfl⟩ := List.mem_map.mp (h1 p hp)
      exact (same_new ns).seqT (hT r hr2)
    · obtain ⟨r, hr2, rfl⟩ := List.mem_map.mp (h1 p hp)
      exact ⟨_, _, rfl⟩
    obtain ⟨e1, sub, asc, mem⟩ := asc_pts h1 h2 pm nd pw
    rw [e1]
    generalize M.map dec = hs at e1 sub asc mem ⊢
    have len : hs.length = M.length := by
      have := congrArg List.length e1
      rw [List.length_map, refs_len] at this
      exact this.symm
    have s1 : Same H (upd (upd H sa (SetTO _ _ sa L)) wa (.lst (refs hs))) := (same_new ns).trans (same_new nw)
    generalize hH1 : upd (upd H sa (SetTO _ _ sa L)) wa (.lst (refs hs)) = H1 at s1 ⊢
    have hw : H1 wa = some (.lst (refs hs)) := by
      rw [← hH1]
      exact upd_same
    have nw1 : H wa = none := (same_new ns).free nw
    refine ⟨.ref wa, rfl, wa, _, rfl, .inl (SqL.of hw), _, _, rfl, rfl, _, rfl, ite2 (fun c => ?_) (fun c => ?_)⟩
    · refine ⟨_, rfl, q _ wa hs (hs.map (·.2)) s1 nw1 hw sub asc mem ?_⟩
      rw [refs_len] at c
      exact (show hul (hs.map (·.2)) = hs.map (·.2) from hul_few (by rw [List.length_map]; have := of_decide_eq_true c; omega)).symm
    · rw [refs_len] at c
      refine ⟨.ref wa, rfl, wa, hs, rfl, SqL.of hw, (hT.sub sub).same s1, fun p hp => small p (sub p hp), by omega, fun H2 x s2 nx hx => ?_⟩
      refine ⟨1, rfl, -1, rfl, x, _, rfl, SqL.of hx, fun y ny => ?_⟩
      rw [cut_last]
      refine ⟨.ref wa, rfl, wa, refs hs, rfl, SqL.of (((s2.trans (same_new ny))) _ _ hw), fun z nz => ?_⟩
      have s3 := (s2.trans (same_new ny)).trans (same_new (o := .lst (refs hs).reverse) nz)
      refine ⟨z, hs.reverse, rfl, SqL.of (by rw [upd_same]; simp [refs]), ((hT.sub sub).same (s1.trans s3)).sub (fun p hp => List.mem_reverse.mp hp), fun p hp => small p (sub p (List.mem_reverse.mp hp)), by rw [List.length_reverse]; omega, fun H4 u s4 nu hu => ?_⟩
      refine ⟨1, rfl, -1, rfl, u, _, rfl, SqL.of hu, fun v nv => ?_⟩
      rw [cut_last]
      have hy : (upd H4 v (.lst (refs (halfK hs.reverse).reverse).dropLast)) y = some (.lst (refs (halfK hs).reverse).dropLast) := (((same_new nz).trans s4).trans (same_new nv)) _ _ upd_same
      have b1 := half_len hs
      have b2 := half_len hs.reverse
      rw [List.length_reverse] at b2
      refine ⟨y, v, _, _, rfl, rfl, hy, upd_same, ?_, fun t nt => ?_⟩
      · rw [List.length_dropLast, List.length_dropLast, refs_len, refs_len, List.length_reverse, List.length_reverse]
        exact sz20 (by omega)
      · have e5 : (refs (halfK hs).reverse).dropLast ++ (refs (halfK hs.reverse).reverse).dropLast = refs (hullK hs) := by
          unfold hullK refs
          rw [List.map_append, List.map_dropLast, List.map_dropLast]
        rw [e5]
        refine q _ t (hullK hs) (hs.map (·.2)) (s1.trans (s3.trans (s4.trans ((same_new nv).trans (same_new nt))))) ((s1.trans (s3.trans (s4.trans (same_new nv)))).free nt) upd_same (fun p hp => sub p (hullK_sub hs p hp)) asc mem ?_
        rw [hullK_snd]
        unfold hul
        rw [if_neg (by rw [List.length_map]; have c2 : ¬ ((hs.length : Int) < 3) := fun z => c (decide_eq_true z); omega)]
end
end K2

set_option maxRecDepth 100000
set_option maxHeartbeats 1000000
set_option exponentiation.threshold 20000
namespace K2
open PySem PySem.Spec PyProof.Rows L2 Fen
abbrev sInt : Stmt := topS 14
abbrev sBet : Stmt := topS 15
abbrev sIsP : Stmt := topS 16
abbrev sIsC : Stmt := topS 17
abbrev sIsB : Stmt := topS 18
abbrev sChB : Stmt := topS 19
abbrev sChP : Stmt := topS 20
theorem scInt : FnScope ["value"] ["value"] (defScope sInt) := ⟨rfl, rfl, rfl, by decide +kernel, rfl, by decide +kernel, by decide +kernel⟩
theorem scBet : FnScope ["value", "least", "greatest"] ["value", "least", "greatest"] (defScope sBet) := ⟨rfl, rfl, rfl, by decide +kernel, rfl, by decide +kernel, by decide +kernel⟩
theorem scIsP : FnScope ["value"] ["value"] (defScope sIsP) := ⟨rfl, rfl, rfl, by decide +kernel, rfl, by decide +kernel, by decide +kernel⟩
theorem scIsC : FnScope ["value"] ["value"] (defScope sIsC) := ⟨rfl, rfl, rfl, by decide +kernel, rfl, by decide +kernel, by decide +kernel⟩
theorem scIsB : FnScope ["value"] ["value"] (defScope sIsB) := ⟨rfl, rfl, rfl, by decide +kernel, rfl, by decide +kernel, by decide +kernel⟩
theorem scChB : FnScope ["value"] ["value"] (defScope sChB) := ⟨rfl, rfl, rfl, by decide +kernel, rfl, by decide +kernel, by decide +kernel⟩
theorem scChP : FnScope ["value", "index", "point"] ["value"] (defScope sChP) := ⟨rfl, rfl, rfl, by decide +kernel, rfl, by decide +kernel, by decide +kernel⟩
/-- within the range of corners -/
def Co (p : Hull.P) : Prop := -(10 : Int) ^ 30 ≤ p.1 ∧ p.1 ≤ 10 ^ 30 ∧ -(10 : Int) ^ 30 ≤ p.2 ∧ p.2 ≤ 10 ^ 30
theorem Co.sm {p : Hull.P} (h : Co p) : Sm p := by
  obtain ⟨a, b, c, d⟩ := h
  have e : (10 : Int) ^ 30 < 2 ^ 210 := by decide
  have e2 : ((2 : Int) ^ 210) = ((2 ^ 210 : Nat) : Int) := by decide
  unfold Sm
  generalize hL : (10 : Int) ^ 30 = L at *
  rw [e2] at e
  generalize (2 : Nat) ^ 210 = M at *
  omega
section
variable {P : Program} {w : World} {K : PySem.W.Frag} {mg : Str → Option Value} {base : Heap}
/-- what the program's text says of names -/
structure Nms (mg : Str → Option Value) : Prop where
  mii : mg "isinstance" = none
  mint : mg "int" = none
  mbool : mg "bool" = none
  mtup : mg "tuple" = none
  mlst : mg "list" = none
  mlen : mg "len" = none
  menum : mg "enumerate" = none
  lim : ∃ t, mg "LIMIT" = some (.int (10 ^ 30) t)
  gb : ∃ t, mg "GREATEST_BOTTOM" = some (.int 30 t)
  mc : ∃ t, mg "MOST_CORNERS" = some (.int 10 t)
  mp : ∃ t, mg "MOST_POINTS" = some (.int 20 t)
def spInt : Sp := fun vs H Q _ => ∃ i : Int, vs = [.int i] ∧ Q (.bl true) H
theorem kit_ii {K : PySem.W.Frag} : PySem.W.kitOne K (.type "int") (.type "int") = some true := kit_ty (by decide +kernel)
theorem kit_ib {K : PySem.W.Frag} : PySem.W.kitOne K (.type "int") (.type "bool") = some false := kit_ty (by decide +kernel)
theorem kit_tt {K : PySem.W.Frag} : PySem.W.kitOne K (.type "tuple") (.type "tuple") = some true := kit_ty (by decide +kernel)
theorem kit_ll {K : PySem.W.Frag} : PySem.W.kitOne K (.type "list") (.type "list") = some true := kit_ty (by decide +kernel)
theorem ok_int {f : Addr} {fd : FuncData} {k : Nat} (F : Fun K "is_integer" "is_integer" sInt f fd) (T : Nms mg) : FnOk P w K mg base CX0 (k + 1) f fd ["value"] spInt := by
  refine F.ok scInt (fun vs H Q E h => ?_) (fun cdv A outer s H vs Q E hr h => ?_)
  · obtain ⟨i, rfl, _⟩ := h
    rfl
  · obtain ⟨i, rfl, q⟩ := h
    refine ⟨_, pss_one (ps_ret (pe_and (pe_callB call_isi (by rfl) T.mii (by decide +kernel) (pa_cons (pv 0) (pa_cons (pe_bltn (v := .ty "int") (by rfl) T.mint (by decide +kernel) rfl) pa_nil)))
      (pe_and1 (pe_not (pe_callB call_isi (by rfl) T.mii (by decide +kernel) (pa_cons (pv 0) (pa_cons (pe_bltn (v := .ty "bool") (by rfl) T.mbool (by decide +kernel) rfl) pa_nil))))))), ?_⟩
    refine ⟨_, rfl, .int i, .ty "int", .type "int", .type "int", true, rfl, .ty _, .base (.int i), kit_ii, true, rfl, ?_⟩
    rw [if_pos rfl]
    exact ⟨_, rfl, .int i, .ty "bool", .type "int", .type "bool", false, rfl, .ty _, .base (.int i), kit_ib, false, rfl, q⟩
def spBet : Sp := fun vs H Q _ => ∃ i lo hi : Int, vs = [.int i, .int lo, .int hi] ∧ lo ≤ i ∧ i ≤ hi ∧ Q (.bl true) H
theorem ok_bet {f fI : Addr} {fd fdI : FuncData} {k : Nat} (F : Fun K "is_between" "is_between" sBet f fd) (FI : Fun K "is_integer" "is_integer" sInt fI fdI) (bI : Binds K fdI ["value"] []) (gI : mg "is_integer" = some (.ref fI)) (T : Nms mg) : FnOk P w K mg base CX0 (k + 1 + 1) f fd ["value", "least", "greatest"] spBet := by
  have OI : FnOk P w K mg base CX0 1 fI fdI ["value"] spInt := ok_int FI T
  refine F.ok scBet (fun vs H Q E h => ?_) (fun cdv A outer s H vs Q E hr h => ?_)
  · obtain ⟨i, lo, hi, rfl, _⟩ := h
    rfl
  · obtain ⟨i, lo, hi, rfl, h1, h2, q⟩ := h
    refine ⟨_, pss_one (ps_ret (pe_and (pe_call OI (hr.mono (by omega)) (by rfl) gI FI.kp bI .nil pass0 (pa_cons (pv 0) pa_nil)) (pe_and1 (pe_chain op_le op_le (pv 1) (pv 0) (pv 2))))), ?_⟩
    refine ⟨_, rfl, i, rfl, true, rfl, ?_⟩
    rw [if_pos rfl]
    refine ⟨_, rfl, _, rfl, _, _, rfl, rfl, _, rfl, ?_⟩
    rw [if_pos (decide_eq_true h1)]
    refine ⟨_, rfl, _, _, rfl, rfl, ?_⟩
    exact (show Q (.bl (decide (i ≤ hi))) H by rw [decide_eq_true h2]; exact q)
def spIsP (K : PySem.W.Frag) : Sp := fun vs H Q _ => ∃ (a : Addr) (i j : Int), vs = [.ref a] ∧ SqT K H a [.int i, .int j] ∧ Q (.bl true) H
theorem ok_isP {f fI : Addr} {fd fdI : FuncData} {k : Nat} (F : Fun K "is_point" "is_point" sIsP f fd) (FI : Fun K "is_integer" "is_integer" sInt fI fdI) (bI : Binds K fdI ["value"] []) (gI : mg "is_integer" = some (.ref fI)) (T : Nms mg) : FnOk P w K mg base CX0 (k + 1 + 1) f fd ["value"] (spIsP K) := by
  have OI : FnOk P w K mg base CX0 1 fI fdI ["value"] spInt := ok_int FI T
  refine F.ok scIsP (fun vs H Q E h => ?_) (fun cdv A outer s H vs Q E hr h => ?_)
  · obtain ⟨a, i, j, rfl, _⟩ := h
    rfl
  · obtain ⟨a, i, j, rfl, hT, q⟩ := h
    have h1 : Room 1 (A.deeper (envOfC "is_point" (defScope sIsP) s.heap.objs.size f cdv)) := hr.mono (by omega)
    refine ⟨_, pss_one (ps_ret (pe_and (pe_callB call_isi (by rfl) T.mii (by decide +kernel) (pa_cons (pv 0) (pa_cons (pe_bltn (v := .ty "tuple") (by rfl) T.mtup (by decide +kernel) rfl) pa_nil)))
      (pe_and (pe_cmpR op_eq (pe_callB call_len_seq (by rfl) T.mlen PySem.boot_len (pa_cons (pv 0) pa_nil)) pe_int (nomark _))
      (pe_and (pe_call OI h1 (by rfl) gI FI.kp bI .nil pass0 (pa_cons (pe_ix ix_tup (pv 0) pe_int (fun _ _ => rfl)) pa_nil))
      (pe_and1 (pe_call OI h1 (by rfl) gI FI.kp bI .nil pass0 (pa_cons (pe_ix ix_tup (pv 0) pe_int (fun _ _ => rfl)) pa_nil))))))), ?_⟩
    refine ⟨_, rfl, .ref a, .ty "tuple", .type "tuple", .type "tuple", true, rfl, .ty _, ty_tup hT, kit_tt, true, rfl, ?_⟩
    rw [if_pos rfl]
    refine ⟨.ref a, rfl, a, _, rfl, .inr hT, rfl, _, rfl, ?_⟩
    refine iteT ?_
    refine ⟨.ref a, rfl, a, _, 0, .int i, rfl, rfl, hT, rfl, i, rfl, true, rfl, ?_⟩
    rw [if_pos rfl]
    exact ⟨.ref a, rfl, a, _, 1, .int j, rfl, rfl, hT, rfl, j, rfl, q⟩
def spIsC (K : PySem.W.Frag) : Sp := fun vs H Q _ => ∃ (a : Addr) (p : Hull.P), vs = [.ref a] ∧ SqT K H a [.int p.1, .int p.2] ∧ Co p ∧ Q (.bl true) H
theorem ok_isC {f fI : Addr} {fd fdI : FuncData} {k : Nat} (F : Fun K "is_corner" "is_corner" sIsC f fd) (OI : FnOk P w K mg base CX0 (k + 1) fI fdI ["value"] (spIsP K)) (kI : PySem.W.keepIn K (.ref fI) = true) (bI : Binds K fdI ["value"] []) (gI : mg "is_point" = some (.ref fI)) (T : Nms mg) : FnOk P w K mg base CX0 (k + 1 + 1) f fd ["value"] (spIsC K) := by
  obtain ⟨t, lim⟩ := T.lim
  refine F.ok scIsC (fun vs H Q E h => ?_) (fun cdv A outer s H vs Q E hr h => ?_)
  · obtain ⟨a, p, rfl, _⟩ := h
    rfl
  · obtain ⟨a, p, rfl, hT, ⟨c1, c2, c3, c4⟩, q⟩ := h
    refine ⟨_, pss_one (ps_ret (pe_and (pe_call OI hr (by rfl) gI kI bI .nil pass0 (pa_cons (pv 0) pa_nil))
      (pe_and (pe_chain op_le op_le (pe_un un_neg (pe_glob (v := .int (10 ^ 30)) (by rfl) lim ⟨_, rfl⟩)) (pe_ix ix_tup (pv 0) pe_int (fun _ _ => rfl)) (pe_glob (v := .int (10 ^ 30)) (by rfl) lim ⟨_, rfl⟩))
      (pe_and1 (pe_chain op_le op_le (pe_un un_neg (pe_glob (v := .int (10 ^ 30)) (by rfl) lim ⟨_, rfl⟩)) (pe_ix ix_tup (pv 0) pe_int (fun _ _ => rfl)) (pe_glob (v := .int (10 ^ 30)) (by rfl) lim ⟨_, rfl⟩)))))), ?_⟩
    refine ⟨_, rfl, a, p.1, p.2, rfl, hT, true, rfl, ?_⟩
    rw [if_pos rfl]
    refine ⟨_, rfl, .ref a, rfl, a, _, 0, .int p.1, rfl, rfl, hT, rfl, _, _, rfl, rfl, _, rfl, ?_⟩
    rw [if_pos (decide_eq_true c1)]
    refine ⟨_, _, rfl, rfl, _, rfl, ?_⟩
    rw [if_pos (decide_eq_true c2)]
    refine ⟨_, rfl, .ref a, rfl, a, _, 1, .int p.2, rfl, rfl, hT, rfl, _, _, rfl, rfl, _, rfl, ?_⟩
    rw [if_pos (decide_eq_true c3)]
    exact ⟨_, _, rfl, rfl, (show Q (.bl (decide (p.2 ≤ 10 ^ 30))) H by rw [decide_eq_true c4]; exact q)⟩
def spIsB : Sp := fun vs H Q _ => ∃ i : Int, vs = [.int i] ∧ 1 ≤ i ∧ i ≤ 30 ∧ Q (.bl true) H
theorem ok_isB {f fI : Addr} {fd fdI : FuncData} {k : Nat} (F : Fun K "is_bottom" "is_bottom" sIsB f fd) (OI : FnOk P w K mg base CX0 (k + 1) fI fdI ["value", "least", "greatest"] spBet) (kI : PySem.W.keepIn K (.ref fI) = true) (bI : Binds K fdI ["value", "least", "greatest"] []) (gI : mg "is_between" = some (.ref fI)) (T : Nms mg) : FnOk P w K mg base CX0 (k + 1 + 1) f fd ["value"] spIsB := by
  obtain ⟨t, gb⟩ := T.gb
  refine F.ok scIsB (fun vs H Q E h => ?_) (fun cdv A outer s H vs Q E hr h => ?_)
  · obtain ⟨i, rfl, _⟩ := h
    rfl
  · obtain ⟨i, rfl, h1, h2, q⟩ := h
    refine ⟨_, pss_one (ps_ret (pe_call OI hr (by rfl) gI kI bI .nil pass0 (pa_cons (pv 0) (pa_cons pe_int (pa_cons (pe_glob (v := .int 30) (by rfl) gb ⟨_, rfl⟩) pa_nil))))), ?_⟩
    exact ⟨_, rfl, i, 1, 30, rfl, h1, h2, q⟩
def spChB : Sp := fun vs H Q _ => ∃ i : Int, vs = [.int i] ∧ 1 ≤ i ∧ i ≤ 30 ∧ Q .non H
theorem ok_chB {f fI : Addr} {fd fdI : FuncData} {k : Nat} (F : Fun K "check_bottom" "check_bottom" sChB f fd) (OI : FnOk P w K mg base CX0 (k + 1) fI fdI ["value"] spIsB) (kI : PySem.W.keepIn K (.ref fI) = true) (bI : Binds K fdI ["value"] []) (gI : mg "is_bottom" = some (.ref fI)) : FnOk P w K mg base CX0 (k + 1 + 1) f fd ["value"] spChB := by
  refine F.ok scChB (fun vs H Q E h => ?_) (fun cdv A outer s H vs Q E hr h => ?_)
  · obtain ⟨i, rfl, _⟩ := h
    rfl
  · obtain ⟨i, rfl, h1, h2, q⟩ := h
    refine ⟨_, pss_one (ps_if (pt_not (pt_val (pe_call OI hr (by rfl) gI kI bI .nil pass0 (pa_cons (pv 0) pa_nil)))) (pss_one ps_no) pss_nil), ?_⟩
    refine ⟨_, rfl, i, rfl, h1, h2, true, rfl, ?_⟩
    exact iteF q
def spChP (K : PySem.W.Frag) : Sp := fun vs H Q _ => ∃ (a : Addr) (ks : Pts), vs = [.ref a] ∧ SqL K H a (refs ks) ∧ At K H ks ∧ (∀ p ∈ ks, Co p.2) ∧ 1 ≤ ks.length ∧ ks.length ≤ 20 ∧ ∀ H', Same H H' → Q .non H'
theorem ok_chP {f fI : Addr} {fd fdI : FuncData} {k : Nat} (F : Fun K "check_points" "check_points" sChP f fd) (OI : FnOk P w K mg base CX0 (k + 1) fI fdI ["value"] (spIsC K)) (kI : PySem.W.keepIn K (.ref fI) = true) (bI : Binds K fdI ["value"] []) (gI : mg "is_corner" = some (.ref fI)) (T : Nms mg) : FnOk P w K mg base CX0 (k + 1 + 1) f fd ["value"] (spChP K) := by
  obtain ⟨t, mp⟩ := T.mp
  refine F.ok scChP (fun vs H Q E h => ?_) (fun cdv A outer s H vs Q E hr h => ?_)
  · obtain ⟨i, ks, rfl, _⟩ := h
    rfl
  · obtain ⟨a, ks, rfl, hS, hT, co, l1, l2, q⟩ := h
    refine ⟨_, pss_cons (ps_if (PW.pt (pw_or (pt_not (pt_val (pe_callB call_isi (by rfl) T.mii (by decide +kernel) (pa_cons (pv 0) (pa_cons (pe_bltn (v := .ty "list") (by rfl) T.mlst (by decide +kernel) rfl) pa_nil)))))
        (pw_or1 (pt_not (pt_chain op_le op_le pe_int (pe_callB call_len_seq (by rfl) T.mlen PySem.boot_len (pa_cons (pv 0) pa_nil)) (pe_glob (v := .int 20) (by rfl) mp ⟨_, rfl⟩)))))) (pss_one ps_no) pss_nil)
      (pss_one (ps_for PassesOwn.never rfl (pi_enum (by rfl) T.menum (pa_cons (pv 0) pa_nil)) (pg_tup rfl (pgs_cons (pg_name (i := 1) scChP.nd rfl (.inl rfl)) (pgs_cons (pg_name (i := 2) scChP.nd rfl (.inl rfl)) pgs_nil)))
        (pss_one (ps_if (pt_not (pt_val (pe_call OI hr (by rfl) gI kI bI .nil pass0 (pa_cons (pv 2) pa_nil)))) (pss_one ps_no) pss_nil)))), ?_⟩
    refine ⟨_, rfl, .ref a, .ty "list", .type "list", .type "list", true, rfl, .ty _, ty_lst hS, kit_ll, true, rfl, ?_⟩
    refine iteF ?_
    refine ⟨.ref a, rfl, a, _, rfl, .inl hS, _, _, rfl, rfl, _, rfl, ?_⟩
    rw [refs_len, if_pos (decide_eq_true (show (1 : Int) ≤ (ks.length : Int) by omega))]
    refine ⟨_, _, rfl, rfl, _, rfl, ?_⟩
    rw [decide_eq_true (show (ks.length : Int) ≤ 20 by omega)]
    refine iteF ?_
    refine ⟨.ref a, rfl, a, _, rfl, hS, ?_⟩
    refine for_it (walk_enum (K := K) (a := a) (xs := refs ks)) (fun e σ H' => ∃ z1 z2, σ = [some (.ref a), z1, z2] ∧ Same H H') ⟨_, _, rfl, Same.refl _⟩ (fun e σ H' _ z => ?_) ?_ ?_
    · obtain ⟨_, _, _, z⟩ := z
      exact z.seq hS
    · rintro e x σ H7 H8 he ⟨z1, z2, rfl, s7⟩ ⟨U, x1, x2, rfl, nU, rfl, e1, e2⟩
      obtain ⟨p, hp, rfl⟩ := refs_get e2
      have s8 := s7.trans (same_new (o := .tup [x1, .ref p.1]) nU)
      refine ⟨U, _, rfl, SqT.of upd_same, rfl, x1, [.ref p.1], rfl, .ref p.1, [], rfl, rfl, ?_⟩
      refine ⟨_, rfl, p.1, p.2, rfl, s8.seqT (hT p (List.mem_of_getElem? hp)), co p (List.mem_of_getElem? hp), true, rfl, ?_⟩
      refine iteF ?_
      exact ⟨_, _, rfl, s8⟩
    · rintro σ H7 ⟨z1, z2, rfl, s7⟩
      exact q H7 s7
end
end K2

set_option maxRecDepth 100000
set_option maxHeartbeats 1000000
set_option exponentiation.threshold 20000
namespace K2
open PySem PySem.Spec PyProof.Rows L2 Fen
abbrev sFen : Stmt := topS 22
theorem scFen : FnScope ["bottom", "points", "corners"] ["bottom", "points"] (defScope sFen) := ⟨rfl, rfl, rfl, by decide +kernel, rfl, by decide +kernel, by decide +kernel⟩
abbrev veB : List Value := [.type "ValueError", .type "Exception", .type "BaseException", .type "object"]
/-- the class of what is refused -/
structure Imp (K : PySem.W.Frag) (mg : Str → Option Value) (C : Addr) : Prop where
  gP : mg "Impossible" = some (.ref C)
  xP : PySem.W.excIn K C veB "ValueError.__new__" = true
  kP : PySem.W.keepIn K (.ref C) = true
  bP : PySem.W.subIn K (.ref C) (.type "BaseException") = some true
  tP : PySem.W.typeIn K (.ref C) = some (.type "type")
  eP : PySem.W.exmOne K (.ref C) (.ref C) = some true
/-- the fence at t: its bottom, its corners at w, no open side (at e) -/
structure FenAt (H0 H : Hp) (b : Int) (t w e : Addr) (hs : Pts) : Prop where
  nt : H0 t = none
  nw : H0 w = none
  ne : H0 e = none
  ht : H t = some (.tup [.int b, .ref w, .ref e])
  hw : H w = some (.lst (refs hs))
  he : H e = some (.lst [])
  ap : w ≠ e
theorem FenAt.same {H0 H H' : Hp} {b : Int} {t w e : Addr} {hs : Pts} (h : FenAt H0 H b t w e hs) (s : Same H H') : FenAt H0 H' b t w e hs := ⟨h.nt, h.nw, h.ne, s _ _ h.ht, s _ _ h.hw, s _ _ h.he, h.ap⟩
/-- s is the ascending list of the points ks -/
def AscOf (ks : Pts) (s : List Hull.P) : Prop := s.Pairwise Hull.Lt ∧ ∀ x, x ∈ s ↔ x ∈ ks.map (·.2)
section
variable {P : Program} {w : World} {K : PySem.W.Frag} {mg : Str → Option Value} {base : Heap}
def spFen (K : PySem.W.Frag) (C : Addr) : Sp := fun vs H Q E => ∃ (b : Int) (a : Addr) (ks : Pts), vs = [.int b, .ref a] ∧ 1 ≤ b ∧ b ≤ 30 ∧ SqL K H a (refs ks) ∧ At K H ks ∧ (∀ p ∈ ks, Co p.2) ∧ 1 ≤ ks.length ∧ ks.length ≤ 20 ∧
  (∀ H' s, Same H H' → AscOf ks s → 10 < (hul s).length → E (.ref C) none H') ∧
  ∀ H' t w e hs s, Same H H' → FenAt H H' b t w e hs → (∀ p ∈ hs, p ∈ ks) → AscOf ks s → hs.map (·.2) = hul s → (hul s).length ≤ 10 → Q (.ref t) H'
theorem ok_fen {f fB fC fH : Addr} {fd fdB fdC fdH : FuncData} {k : Nat} {C : Addr} (F : Fun K "fence_of" "fence_of" sFen f fd) (T : Nms mg) (I : Imp K mg C)
    (OB : FnOk P w K mg base CX0 (k + 1) fB fdB ["value"] spChB) (kB : PySem.W.keepIn K (.ref fB) = true) (bB : Binds K fdB ["value"] []) (gB : mg "check_bottom" = some (.ref fB))
    (OC : FnOk P w K mg base CX0 (k + 1) fC fdC ["value"] (spChP K)) (kC : PySem.W.keepIn K (.ref fC) = true) (bC : Binds K fdC ["value"] []) (gC : mg "check_points" = some (.ref fC))
    (OH : FnOk P w K mg base CX0 (k + 1) fH fdH ["points"] (spHul K)) (kH : PySem.W.keepIn K (.ref fH) = true) (bH : Binds K fdH ["points"] []) (gH : mg "convex_hull" = some (.ref fH)) :
    FnOk P w K mg base (L2.CX P w) (k + 1 + 1) f fd ["bottom", "points"] (spFen K C) := by
  obtain ⟨t, mc⟩ := T.mc
  refine F.okX scFen (fun vs H Q E h => ?_) (fun cdv A outer s H vs Q E hr h => ?_)
  · obtain ⟨b, a, ks, rfl, _⟩ := h
    rfl
  · obtain ⟨b, a, ks, rfl, b1, b2, hS, hT, co, l1, l2, kE, kQ⟩ := h
    refine ⟨_, pss_cons (ps_expr (pe_call OB hr (by rfl) gB kB bB .nil pass0 (pa_cons (pv 0) pa_nil)))
      (pss_cons (ps_expr (pe_call OC hr (by rfl) gC kC bC .nil pass0 (pa_cons (pv 1) pa_nil)))
      (pss_cons (ps_set (i := 2) scFen.nd rfl (.inl rfl) (pe_call OH hr (by rfl) gH kH bH .nil pass0 (pa_cons (pv 1) pa_nil)))
      (pss_cons (ps_if (pt_cmpR op_gt (pe_callB call_len_seq (by rfl) T.mlen PySem.boot_len (pa_cons (pv 2) pa_nil)) (pe_glob (v := .int 10) (by rfl) mc ⟨_, rfl⟩) (nomark _))
          (pss_one (ps_raise rfl (takes_of rfl rfl rfl rfl) (pmk_own PySem.F.excBase_ValueError I.xP I.gP I.kP (raises_own I.bP I.tP) rfl))) pss_nil)
      (pss_one (ps_ret (pe_tup (pa_cons (pv 0) (pa_cons (pv 2) (pa_cons (pe_lst pa_nil) pa_nil))))))))), ?_⟩
    refine ⟨_, rfl, b, rfl, b1, b2, ?_⟩
    refine ⟨_, rfl, a, ks, rfl, hS, hT, co, l1, l2, fun H1 s1 => ?_⟩
    refine ⟨.ref a, rfl, a, ks, rfl, s1.seq hS, hT.same s1, fun p hp => (co p hp).sm, by omega, fun H2 x hs s s2 nx hx sub asc mem e2 => ?_⟩
    have lh : hs.length = (hul s).length := by rw [← e2, List.length_map]
    refine ⟨.ref x, rfl, x, _, rfl, .inl (SqL.of hx), _, _, rfl, rfl, _, rfl, ite2 (fun c => ?_) (fun c => ?_)⟩
    · rw [refs_len] at c
      have c2 : (10 : Int) < (hs.length : Int) := of_decide_eq_true c
      exact kE _ s (s1.trans s2) ⟨asc, mem⟩ (by omega)
    · rw [refs_len] at c
      have c2 : ¬ (10 : Int) < (hs.length : Int) := fun z => c (decide_eq_true z)
      refine ⟨_, rfl, .ref x, rfl, by show 0 ≤ sizeLine; decide, fun y ny => ?_⟩
      refine ⟨by show 3 ≤ sizeLine; decide, fun z nz => ?_⟩
      have s3 := (s1.trans s2).trans (same_new (o := .lst []) ny)
      have xy : x ≠ y := ne_of_none hx ny
      refine kQ _ z x y hs s (s3.trans (same_new nz)) ⟨s3.free nz, s1.free nx, (s1.trans s2).free ny, upd_same, ?_, ?_, xy⟩ sub ⟨asc, mem⟩ e2 (by omega)
      · exact ((same_new ny).trans (same_new nz)) _ _ hx
      · exact (same_new nz) _ _ upd_same
end
end K2

set_option maxRecDepth 100000
set_option maxHeartbeats 1000000
set_option exponentiation.threshold 20000
namespace K2
open PySem PySem.Spec PyProof.Rows L2 Fen
abbrev sBag : Stmt := topS 24
abbrev sPick : Stmt := topS 25
theorem scBag : FnScope ["_law_cell"] ["_law_cell"] (defScope sBag) := ⟨rfl, rfl, rfl, by decide +kernel, rfl, by decide +kernel, by decide +kernel⟩
theorem scPick : FnScope ["_law_bag_here", "_law_many", "_law_drawn", "_law_mixed_here"] ["_law_bag_here", "_law_many"] (defScope sPick) := ⟨rfl, rfl, rfl, by decide +kernel, rfl, by decide +kernel, by decide +kernel⟩
/-- a bag at p, at most n times mixed -/
def BagAt (H : Hp) (p : Addr) (n : Nat) : Prop := ∃ d m c : Int, H p = some (.lst [.int d, .int m, .int c]) ∧ 0 ≤ m ∧ m < 2 ^ 140 ∧ 0 ≤ c ∧ c ≤ n
theorem BagAt.same {H H' : Hp} {p : Addr} {n : Nat} (b : BagAt H p n) (s : Same H H') : BagAt H' p n := by
  obtain ⟨d, m, c, h, r⟩ := b
  exact ⟨d, m, c, s _ _ h, r⟩
theorem BagAt.more {H : Hp} {p : Addr} {n n' : Nat} (b : BagAt H p n) (h : n ≤ n') : BagAt H p n' := by
  obtain ⟨d, m, c, e, a1, a2, a3, a4⟩ := b
  exact ⟨d, m, c, e, a1, a2, a3, by omega⟩
/-- only the bag at p was changed, and things are new -/
structure Drew (p : Addr) (H H' : Hp) (n : Nat) : Prop where
  x : SameX p H H'
  bag : BagAt H' p n
theorem Drew.free {p : Addr} {H H' : Hp} {n : Nat} (d : Drew p H H' n) {b : Addr} (h : H' b = none) : H b = none := by
  cases e : H b with
  | none => rfl
  | some o =>
    have bp : b ≠ p := fun z => by
      obtain ⟨_, _, _, hb, _⟩ := d.bag
      rw [z, hb] at h
      cases h
    rw [d.x b o bp e] at h
    cases h
theorem Drew.new {p : Addr} {H H' : Hp} {n : Nat} (d : Drew p H H' n) {H'' : Hp} (s : Same H' H'') : Drew p H H'' n := ⟨d.x.trans s.x, d.bag.same s⟩
theorem Drew.then {p : Addr} {H H' H'' : Hp} {n m : Nat} (d : Drew p H H' n) (e : Drew p H' H'' m) : Drew p H H'' m := ⟨d.x.trans e.x, e.bag⟩
theorem Drew.of {p : Addr} {H H' : Hp} {n : Nat} (b : BagAt H p n) (s : Same H H') : Drew p H H' n := ⟨s.x, b.same s⟩
theorem SameX.seqL {K : PySem.W.Frag} {p a : Addr} {H H' : Hp} {xs : List V} (s : SameX p H H') (n : a ≠ p) (h : SqL K H a xs) : SqL K H' a xs := by
  rcases h with (h | ⟨o, h⟩) | h
  · exact .inl (.inl (s _ _ n h))
  · exact .inl (.inr ⟨o, s _ _ n h⟩)
  · exact .inr h
section
variable {P : Program} {w : World} {K : PySem.W.Frag} {mg : Str → Option Value} {base : Heap}
def spBag : Sp := fun vs H Q _ => ∃ i : Int, vs = [.int i] ∧ ∀ H' p, Same H H' → H p = none → BagAt H' p 0 → Q (.ref p) H'
theorem ok_bag {f : Addr} {fd : FuncData} {k : Nat} (F : Fun K "_law_bag" "_law_bag" sBag f fd) (mi : mg "int" = none) (mm : mg "max" = none) : FnOk P w K mg base CX0 (k + 1) f fd ["_law_cell"] spBag := by
  refine F.ok scBag (fun vs H Q E h => ?_) (fun cdv A outer s H vs Q E hr h => ?_)
  · obtain ⟨i, rfl, _⟩ := h
    rfl
  · obtain ⟨i, rfl, q⟩ := h
    refine ⟨_, pss_one (ps_ret (pe_lst (pa_cons (pe_callB (call_max2 rfl) (by rfl) mm (by decide +kernel) (pa_cons pe_int (pa_cons (pe_op op_sub (pv 0) (pe_op op_pow pe_int pe_int)) pa_nil)))
      (pa_cons (pe_op op_mod (pe_callTy call_int1 (by rfl) mi (by decide +kernel) (pa_cons (pv 0) pa_nil)) (pe_op op_add (pe_op op_pow pe_int pe_int) pe_int)) (pa_cons pe_int pa_nil))))), ?_⟩
    refine ⟨_, rfl, 10, 18, rfl, rfl, ⟨by decide, by decide, by decide⟩, _, _, rfl, rfl, _, _, rfl, _, rfl, .inl ⟨_, rfl, 10, 40, rfl, rfl, ⟨by decide, by decide, by decide⟩, _, _, rfl, rfl, _, _, rfl, rfl, (by decide : (0 : Int) < 10 ^ (40 : Int).toNat + 121), sz20 (by simp), fun p np => ?_⟩⟩
    refine q _ p (same_new np) np ⟨_, _, _, upd_same, Int.emod_nonneg _ (by decide), ?_, by decide, by decide⟩
    exact Int.lt_trans (Int.emod_lt_of_pos _ (by decide)) (by decide)
def spPick : Sp := fun vs H Q _ => ∃ (p : Addr) (wd : Int) (n : Nat), vs = [.ref p, .int wd] ∧ 0 < wd ∧ wd < 2 ^ 100 ∧ BagAt H p n ∧ n ≤ 1000000 ∧ ∀ (r : Int) (H' : Hp), 0 ≤ r → r < wd → Drew p H H' (n + 1) → (∀ b, b ≠ p → H' b = H b) → Q (.int r) H'
theorem ok_pick {f : Addr} {fd : FuncData} {k : Nat} (F : Fun K "_law_pick" "_law_pick" sPick f fd) (mi : mg "int" = none) : FnOk P w K mg base CX0 (k + 1) f fd ["_law_bag_here", "_law_many"] spPick := by
  refine F.ok scPick (fun vs H Q E h => ?_) (fun cdv A outer s H vs Q E hr h => ?_)
  · obtain ⟨p, wd, n, rfl, _⟩ := h
    rfl
  · obtain ⟨p, wd, n, rfl, w0, w1, ⟨d, m, c, hp, m0, m1, c0, c1⟩, n1, q⟩ := h
    have wb : wd.natAbs < 2 ^ 100 := by
      have e : ((2 : Int) ^ 100) = ((2 ^ 100 : Nat) : Int) := by decide
      rw [e] at w1
      generalize (2 : Nat) ^ 100 = M at *
      omega
    have q2 : ∀ (r d' c' : Int), 0 ≤ r → r < wd → 0 ≤ c' → c' ≤ c + 1 → Q (.int r) (upd H p (.lst [.int d', .int m, .int c'])) := fun r d' c' r0 r1 e0 e1 => q r _ r0 r1 ⟨SameX.put, d', m, c', upd_same, m0, m1, e0, by omega⟩ fun b hb => upd_ne hb
    refine ⟨_, pss_cons (ps_if (pt_cmpR op_gt (pe_ix ix_list (pv 0) pe_int (fun _ _ => rfl)) pe_int (nomark _))
        (pss_cons (ps_set (i := 2) scPick.nd rfl (.inl rfl) (pe_op op_mod (pe_callTy call_int1 (by rfl) mi (by decide +kernel) (pa_cons (pe_ix ix_list (pv 0) pe_int (fun _ _ => rfl)) pa_nil)) (pv 1)))
        (pss_cons (ps_asg (pe_op op_fdivW (pe_callTy call_int1 (by rfl) mi (by decide +kernel) (pa_cons (pe_ix ix_list (pv 0) pe_int (fun _ _ => rfl)) pa_nil)) (pv 1)) (pg_sub (pv 0) pe_int set_list))
        (pss_one (ps_ret (pv 2))))) pss_nil)
      (pss_cons (ps_asg (pe_op op_add (pe_ix ix_list (pv 0) pe_int (fun _ _ => rfl)) pe_int) (pg_sub (pv 0) pe_int set_list))
      (pss_cons (ps_set (i := 3) scPick.nd rfl (.inl rfl) (pe_op op_mod (pe_callTy call_int1 (by rfl) mi (by decide +kernel) (pa_cons (pe_op op_powW (pe_op op_add (pe_ix ix_list (pv 0) pe_int (fun _ _ => rfl)) (pe_op op_mul pe_int (pe_ix ix_list (pv 0) pe_int (fun _ _ => rfl)))) pe_int) pa_nil)) (pe_op op_add (pe_op op_pow pe_int pe_int) pe_int)))
      (pss_cons (ps_set (i := 3) scPick.nd rfl (.inl rfl) (pe_op op_mod (pe_callTy call_int1 (by rfl) mi (by decide +kernel) (pa_cons (pe_op op_powW (pe_op op_add (pv 3) (pe_op op_mul pe_int (pe_ix ix_list (pv 0) pe_int (fun _ _ => rfl)))) pe_int) pa_nil)) (pe_op op_add (pe_op op_pow pe_int pe_int) pe_int)))
      (pss_one (ps_ret (pe_op op_mod (pe_callTy call_int1 (by rfl) mi (by decide +kernel) (pa_cons (pe_op op_fdiv (pv 3) pe_int) pa_nil)) (pv 1))))))), ?_⟩
    refine ⟨.ref p, rfl, p, _, 0, .int d, rfl, rfl, SqL.of hp, atI_nat (j := 0) rfl, _, _, rfl, rfl, _, rfl, ite2 (fun e => ?_) (fun e => ?_)⟩
    · refine ⟨.ref p, rfl, p, _, 0, .int d, rfl, rfl, SqL.of hp, atI_nat (j := 0) rfl, .inl ⟨_, rfl, _, rfl, _, _, rfl, rfl, w0, ?_⟩⟩
      refine ⟨.ref p, rfl, p, _, 0, .int d, rfl, rfl, SqL.of hp, atI_nat (j := 0) rfl, .inl ⟨_, rfl, _, rfl, _, _, rfl, rfl, wide_div w0 wb (by decide) (by decide), .ref p, rfl, p, _, 0, 0, rfl, rfl, hp, rfl, ?_⟩⟩
      exact ⟨_, rfl, q2 (d % wd) (d / wd) c (Int.emod_nonneg _ (by omega)) (Int.emod_lt_of_pos _ w0) c0 (by omega)⟩
    · refine ⟨.ref p, rfl, p, _, 2, .int c, rfl, rfl, SqL.of hp, atI_nat (j := 2) rfl, _, _, rfl, rfl, .ref p, rfl, p, _, 2, 2, rfl, rfl, hp, rfl, ?_⟩
      have h2 : upd H p (.lst ([V.int d, .int m, .int c].set 2 (.int (c + 1)))) p = some (.lst [.int d, .int m, .int (c + 1)]) := upd_same
      have cb : c + 1 ≤ 1000001 := by omega
      have bd : ∀ a b : Int, 0 ≤ a → a < 2 ^ 200 → 0 ≤ b → b ≤ 1000000000 → (a + b * (c + 1)).natAbs < 2 ^ 300 := fun a b a0 a1 b0 b1 => by
        have z : b * (c + 1) ≤ 1000000000 * 1000001 := Int.mul_le_mul b1 cb (by omega) (by decide)
        have z0 : 0 ≤ b * (c + 1) := Int.mul_nonneg b0 (by omega)
        have e1 : ((2 : Int) ^ 200) = ((2 ^ 200 : Nat) : Int) := by decide
        have e2 : (2 : Nat) ^ 200 + 1000000000 * 1000001 < 2 ^ 300 := by decide
        rw [e1] at a1
        generalize (2 : Nat) ^ 200 = M at *
        generalize (2 : Nat) ^ 300 = M' at *
        generalize b * (c + 1) = y at *
        omega
      refine ⟨.ref p, rfl, p, _, 1, .int m, rfl, rfl, SqL.of h2, atI_nat (j := 1) rfl, .ref p, rfl, p, _, 2, .int (c + 1), rfl, rfl, SqL.of h2, atI_nat (j := 2) rfl, _, _, rfl, rfl, .inl ⟨by decide, by decide⟩, _, _, rfl, rfl, ?_⟩
      refine ⟨_, _, rfl, rfl, pow_ok (by decide) (by decide) (bd m 611953 m0 (Int.lt_trans m1 (by decide)) (by decide) (by decide)) (by decide) (by decide), .inl ⟨_, rfl, 10, 39, rfl, rfl, ⟨by decide, by decide, by decide⟩, _, _, rfl, rfl, _, _, rfl, rfl, (by decide : (0 : Int) < 10 ^ (39 : Int).toNat + 3), ?_⟩⟩
      have G0 : 0 ≤ (m + 611953 * (c + 1)) ^ (3 : Int).toNat % (10 ^ (39 : Int).toNat + 3) := Int.emod_nonneg _ (by decide)
      have G1 : (m + 611953 * (c + 1)) ^ (3 : Int).toNat % (10 ^ (39 : Int).toNat + 3) < 2 ^ 200 := Int.lt_trans (Int.emod_lt_of_pos _ (by decide)) (by decide)
      refine ⟨_, rfl, .ref p, rfl, p, _, 2, .int (c + 1), rfl, rfl, SqL.of h2, atI_nat (j := 2) rfl, _, _, rfl, rfl, .inl ⟨by decide, by decide⟩, _, _, rfl, rfl, ?_⟩
      refine ⟨_, _, rfl, rfl, pow_ok (by decide) (by decide) (bd _ 86028121 G0 G1 (by decide) (by decide)) (by decide) (by decide), .inl ⟨_, rfl, 10, 42, rfl, rfl, ⟨by decide, by decide, by decide⟩, _, _, rfl, rfl, _, _, rfl, rfl, (by decide : (0 : Int) < 10 ^ (42 : Int).toNat + 63), ?_⟩⟩
      refine ⟨_, rfl, _, _, rfl, rfl, ⟨by decide, by decide⟩, .inl ⟨_, rfl, _, rfl, _, _, rfl, rfl, w0, ?_⟩⟩
      exact q2 _ d (c + 1) (Int.emod_nonneg _ (by omega)) (Int.emod_lt_of_pos _ w0) (by omega) (by omega)
end
end K2

set_option maxRecDepth 100000
set_option maxHeartbeats 1000000
set_option exponentiation.threshold 20000
namespace L2
open PySem PySem.Spec PyProof.Rows
/-- a reading that says more -/
theorem PS.of {X : Cx} {st : Stmt} {t : TS} (t' : TS) (h : PS X st t) (hi : ∀ D σ H, t' D σ H → t D σ H) : PS X st t' := ⟨fun pins s σ H D I q => h.run pins s σ H D I (hi D σ H q)⟩
theorem PE.of {X : Cx} {e : Expr} {t : TE} (t' : TE) (h : PE X e t) (hi : ∀ σ H Q, t' σ H Q → t σ H Q) : PE X e t' := ⟨fun pins s σ H Q I q => h.run pins s σ H Q I (hi σ H Q q)⟩
theorem SqT.put {K : PySem.W.Frag} {H H' : Hp} {a p : Addr} {xs l : List V} (h : SqT K H a xs) (hp : H p = some (.lst l)) (s : SameX p H H') : SqT K H' a xs := by
  have n : ∀ o, H a = some o → (∀ l, o ≠ .lst l) → a ≠ p := fun o e z y => by
    rw [y, hp] at e
    exact z l (Option.some.inj e).symm
  rcases h with (h | ⟨o, h⟩) | h
  · exact .inl (.inl (s _ _ (n _ h fun l z => nomatch z) h))
  · exact .inl (.inr ⟨o, s _ _ (n _ h fun l z => nomatch z) h⟩)
  · exact .inr h
end L2
namespace K2
open PySem PySem.Spec PyProof.Rows L2 Fen
theorem At.put {K : PySem.W.Frag} {H H' : Hp} {p : Addr} {l : List V} {ks : Pts} (h : At K H ks) (hp : H p = some (.lst l)) (s : SameX p H H') : At K H' ks := fun q hq => L2.SqT.put (h q hq) hp s
theorem At.drew {K : PySem.W.Frag} {H H' : Hp} {p : Addr} {n m : Nat} {ks : Pts} (h : At K H ks) (b : BagAt H p n) (s : Drew p H H' m) : At K H' ks := by
  obtain ⟨d, m, c, e, _⟩ := b
  exact At.put h e s.x
abbrev sPts : Stmt := topS 29
abbrev nPts : List Str := ["_law_bag_here", "_law_many", "_law_wide", "_law_way", "_law_left", "_law_up", "_law_found", "_law_turn_here", "_law_x", "_law_y"]
theorem scPts : FnScope nPts ["_law_bag_here", "_law_many", "_law_wide"] (defScope sPts) := ⟨rfl, rfl, rfl, by decide +kernel, rfl, by decide +kernel, by decide +kernel⟩
abbrev N29 : Int := 100000000000000000000000000000
theorem n29 : (10 : Int) ^ (29 : Int).toNat = N29 := by decide
def ab (x : Int) : Prop := -200000000000000000000000000000 ≤ x ∧ x ≤ 200000000000000000000000000000
def sg (p f : Addr) (many wide way left up : Int) (y7 : Option V) (x y : Int) : L2.St := [some (.ref p), some (.int many), some (.int wide), some (.int way), some (.int left), some (.int up), some (.ref f), y7, some (.int x), some (.int y)]
theorem ab_two {x l : Int} (h0 : 0 ≤ x) (h1 : x ≤ N29) (h2 : -2 ≤ l) (h3 : l ≤ 2) : ab (x * l) := by
  have a1 : x * l ≤ x * 2 := Int.mul_le_mul_of_nonneg_left h3 h0
  have a2 : x * -2 ≤ x * l := Int.mul_le_mul_of_nonneg_left h2 h0
  unfold ab
  have h4 : x ≤ 100000000000000000000000000000 := h1
  omega
theorem co_add {l u x y : Int} (h1 : ab l) (h2 : ab u) (h3 : ab x) (h4 : ab y) : Co (l + x, u + y) := by
  unfold ab at *
  have e : (10 : Int) ^ 30 = 1000000000000000000000000000000 := by decide
  unfold Co
  rw [e]
  refine ⟨?_, ?_, ?_, ?_⟩ <;> dsimp only <;> omega
section
variable {P : Program} {w : World} {K : PySem.W.Frag} {mg : Str → Option Value} {base : Heap}
/-- the steps within the turn, each said anew -/
def T0 : TS := fun D σ H => ∃ (p : Addr) (many wide way left up : Int), σ = [some (.ref p), some (.int many), some (.int wide), some (.int way), some (.int left), some (.int up), none, none, none, none] ∧ (-2 ≤ left ∧ left ≤ 2) ∧ (-2 ≤ up ∧ up ≤ 2) ∧
  ∀ l u, ab l → ab u → (way = 1 → (-2 ≤ l ∧ l ≤ 2) ∧ (-2 ≤ u ∧ u ≤ 2)) → D.nx [some (.ref p), some (.int many), some (.int wide), some (.int way), some (.int l), some (.int u), none, none, none, none] H
def T1 : TS := fun D σ H => ∃ p f many wide way left up y7 x y, σ = sg p f many wide way left up y7 x y ∧ 0 ≤ x ∧ x ≤ N29 ∧ 0 ≤ y ∧ y ≤ N29 ∧ (way = 1 → (-2 ≤ left ∧ left ≤ 2) ∧ (-2 ≤ up ∧ up ≤ 2)) ∧
  ∀ x' y', ab x' → ab y' → (way ≠ 1 → x' = x ∧ y' = y) → D.nx (sg p f many wide way left up y7 x' y') H
def T2 : TS := fun D σ H => ∃ p f many wide way left up y7 x y, σ = sg p f many wide way left up y7 x y ∧ ab x ∧ ab y ∧ (way = 2 → 0 ≤ x ∧ x ≤ wide) ∧
  ∀ x' y', ab x' → ab y' → D.nx (sg p f many wide way left up y7 x' y') H
def T3 (K : PySem.W.Frag) : TS := fun D σ H => ∃ (p f : Addr) (many wide way left up : Int) (y7 : Option V) (x y : Int) (ks : Pts), σ = sg p f many wide way left up y7 x y ∧ ab x ∧ ab y ∧ H f = some (.lst (refs ks)) ∧ At K H ks ∧
  ∀ H' x' y', Same H H' → ab x' → ab y' → D.nx (sg p f many wide way left up y7 x' y') H'
theorem ab_mod {x : Int} : ab (x % 2) := by
  unfold ab
  omega
def spPts (K : PySem.W.Frag) : Sp := fun vs H Q _ => ∃ (p : Addr) (many : Nat) (wide : Int) (n : Nat), vs = [.ref p, .int many, .int wide] ∧ BagAt H p n ∧ n + 100 ≤ 1000000 ∧ 1 ≤ many ∧ many ≤ 20 ∧ 0 < wide ∧ wide ≤ N29 ∧
  ∀ H' f ks, Drew p H H' (n + 43) → H f = none → f ≠ p → H' f = some (.lst (refs ks)) → At K H' ks → (∀ q ∈ ks, Co q.2) → ks.length = many → Q (.ref f) H'
theorem ok_pts {f fP : Addr} {fd fdP : FuncData} {k : Nat} (F : Fun K "_law_points" "_law_points" sPts f fd) (FP : Fun K "_law_pick" "_law_pick" sPick fP fdP) (bP : Binds K fdP ["_law_bag_here", "_law_many"] []) (gP : mg "_law_pick" = some (.ref fP)) (mi : mg "int" = none) (mr : mg "range" = none) :
    FnOk P w K mg base CX0 (k + 1 + 1) f fd ["_law_bag_here", "_law_many", "_law_wide"] (spPts K) := by
  have OP : FnOk P w K mg base CX0 1 fP fdP ["_law_bag_here", "_law_many"] spPick := ok_pick FP mi
  refine F.ok scPts (fun vs H Q E h => ?_) (fun cdv A outer s H vs Q E hr h => ?_)
  · obtain ⟨p, many, wide, n, rfl, _⟩ := h
    rfl
  · obtain ⟨p, many, wide, n, rfl, hb, hn, m1, m2, w0, w1, q⟩ := h
    have h1 : Room 1 (A.deeper (envOfC "_law_points" (defScope sPts) s.heap.objs.size f cdv)) := hr.mono (by omega)
    refine ⟨_, pss_cons (ps_par3 (i := 3) (j := 4) (l := 5) rfl scPts.nd rfl rfl rfl (by decide) (by decide) (by decide) rfl rfl rfl
        (pa_cons (pe_call OP h1 (by rfl) gP FP.kp bP .nil pass0 (pa_cons (pv 0) (pa_cons pe_int pa_nil))) (pa_cons (pe_op op_sub (pe_call OP h1 (by rfl) gP FP.kp bP .nil pass0 (pa_cons (pv 0) (pa_cons pe_int pa_nil))) pe_int) (pa_cons (pe_op op_sub (pe_call OP h1 (by rfl) gP FP.kp bP .nil pass0 (pa_cons (pv 0) (pa_cons pe_int pa_nil))) pe_int) pa_nil))) (by rfl))
      (pss_cons (PS.of T0 (ps_if (pt_cmpR op_eq (pv 3) pe_int (nomark _)) (pss_one (ps_par (i := 4) (j := 5) rfl scPts.nd rfl rfl (by decide) rfl rfl (pa_cons (pe_op op_mul (pv 4) (pe_op op_pow pe_int pe_int)) (pa_cons (pe_op op_mul (pv 5) (pe_op op_pow pe_int pe_int)) pa_nil)) (by rfl))) pss_nil) ?s0)
      (pss_cons (ps_set (i := 6) scPts.nd rfl (.inl rfl) (pe_lst pa_nil))
      (pss_cons (ps_for PassesOwn.never rfl (pi_range1 rfl mr (pa_cons (pv 1) pa_nil)) (pg_name (i := 7) scPts.nd rfl (.inl rfl))
        (pss_cons (ps_par (i := 8) (j := 9) rfl scPts.nd rfl rfl (by decide) rfl rfl (pa_cons (pe_call OP h1 (by rfl) gP FP.kp bP .nil pass0 (pa_cons (pv 0) (pa_cons (pv 2) pa_nil))) (pa_cons (pe_call OP h1 (by rfl) gP FP.kp bP .nil pass0 (pa_cons (pv 0) (pa_cons (pv 2) pa_nil))) pa_nil)) (by rfl))
        (pss_cons (PS.of T1 (ps_if (pt_cmpR op_eq (pv 3) pe_int (nomark _)) (pss_one (ps_par (i := 8) (j := 9) rfl scPts.nd rfl rfl (by decide) rfl rfl (pa_cons (pe_op op_mul (pv 8) (pv 4)) (pa_cons (pe_op op_mul (pv 8) (pv 5)) pa_nil)) (by rfl))) pss_nil) ?s1)
        (pss_cons (PS.of T2 (ps_if (PW.pt (pw_and (pt_cmpR op_eq (pv 3) pe_int (nomark _)) (pw_and1 (pt_cmpR op_lt (pv 2) (pe_op op_pow pe_int pe_int) (nomark _))))) (pss_one (ps_par (i := 8) (j := 9) rfl scPts.nd rfl rfl (by decide) rfl rfl (pa_cons (pv 8) (pa_cons (pe_op op_mul (pv 8) (pv 8)) pa_nil)) (by rfl))) pss_nil) ?s2)
        (pss_cons (PS.of (T3 K) (ps_if (PW.pt (pw_and (pt_cmpR op_eq (pv 3) pe_int (nomark _)) (pw_and1 (pt_cmpR (op_neD (hu_of64 h1)) (pv 6) (pe_lst pa_nil) (nomark _))))) (pss_one (ps_par (i := 8) (j := 9) rfl scPts.nd rfl rfl (by decide) rfl rfl (pa_cons (pe_op op_mod (pe_callTy call_int1 (by rfl) mi (by decide +kernel) (pa_cons (pv 8) pa_nil)) pe_int) (pa_cons (pe_op op_mod (pe_callTy call_int1 (by rfl) mi (by decide +kernel) (pa_cons (pv 9) pa_nil)) pe_int) pa_nil)) (by rfl))) pss_nil) ?s3)
        (pss_one (ps_expr (pe_bm PySem.F.plainAttrs_list PySem.F.slot_list_append PySem.F.type_list_append mt_append (pv 6) (pa_cons (pe_tup (pa_cons (pe_op op_add (pv 4) (pv 8)) (pa_cons (pe_op op_add (pv 5) (pv 9)) pa_nil))) pa_nil)))))))))
      (pss_one (ps_ret (pv 6)))))), ?_⟩
    case s0 =>
      rintro D σ H ⟨p, many, wide, way, left, up, rfl, ⟨l1, l2⟩, ⟨u1, u2⟩, k⟩
      refine ⟨_, rfl, rfl, _, rfl, ite2 (fun e => ?_) (fun e => ?_)⟩
      · have e1 : way = 0 := V.int.inj (of_decide_eq_true e)
        refine ⟨_, rfl, 10, 29, rfl, rfl, ⟨by decide, by decide, by decide⟩, _, _, rfl, rfl, .inl ⟨by omega, by omega⟩, _, rfl, 10, 29, rfl, rfl, ⟨by decide, by decide, by decide⟩, _, _, rfl, rfl, .inl ⟨by omega, by omega⟩, _, _, rfl, ?_⟩
        have b : ∀ z : Int, -2 ≤ z → z ≤ 2 → ab (z * (10 : Int) ^ (29 : Int).toNat) := fun z z1 z2 => by
          rw [n29, Int.mul_comm]
          exact ab_two (by decide) (Int.le_refl _) z1 z2
        exact k _ _ (b left l1 l2) (b up u1 u2) fun z => absurd z (by omega)
      · exact k left up ⟨by omega, by omega⟩ ⟨by omega, by omega⟩ fun _ => ⟨⟨l1, l2⟩, u1, u2⟩
    case s1 =>
      rintro D σ H ⟨p, f, many, wide, way, left, up, y7, x, y, rfl, x0, x1, y0, y1, hw, k⟩
      refine ⟨_, rfl, rfl, _, rfl, ite2 (fun e => ?_) (fun e => ?_)⟩
      · have e1 : way = 1 := V.int.inj (of_decide_eq_true e)
        obtain ⟨⟨l1, l2⟩, u1, u2⟩ := hw e1
        refine ⟨_, rfl, _, rfl, _, _, rfl, rfl, .inr ⟨by omega, by omega⟩, _, rfl, _, rfl, _, _, rfl, rfl, .inr ⟨by omega, by omega⟩, _, _, rfl, ?_⟩
        exact k (x * left) (x * up) (ab_two x0 x1 l1 l2) (ab_two x0 x1 u1 u2) fun z => absurd e1 z
      · have h1 : x ≤ 100000000000000000000000000000 := x1
        have h2 : y ≤ 100000000000000000000000000000 := y1
        exact k x y ⟨by omega, by omega⟩ ⟨by omega, by omega⟩ fun _ => ⟨rfl, rfl⟩
    case s2 =>
      rintro D σ H ⟨p, f, many, wide, way, left, up, y7, x, y, rfl, ax, ay, hw, k⟩
      refine ⟨_, rfl, rfl, _, rfl, ite2 (fun e => ?_) (fun e => ?_)⟩
      · have e1 : way = 2 := V.int.inj (of_decide_eq_true e)
        obtain ⟨x0, x1⟩ := hw e1
        refine ⟨_, rfl, 10, 14, rfl, rfl, ⟨by decide, by decide, by decide⟩, _, _, rfl, rfl, _, rfl, ite2 (fun e2 => ?_) (fun e2 => ?_)⟩
        · have e3 : wide < 100000000000000 := of_decide_eq_true e2
          refine ⟨_, rfl, _, rfl, _, rfl, _, _, rfl, rfl, .inr ⟨by omega, by omega⟩, _, _, rfl, ?_⟩
          have x2 : x * x ≤ 100000000000000 * 100000000000000 := Int.mul_le_mul (by omega) (by omega) x0 (by decide)
          have x3 : 0 ≤ x * x := Int.mul_nonneg x0 x0
          refine k x (x * x) ax ⟨by omega, ?_⟩
          generalize x * x = xx at x2 x3 ⊢
          omega
        · exact k x y ax ay
      · exact iteF (k x y ax ay)
    case s3 =>
      rintro D σ H ⟨p, f, many, wide, way, left, up, y7, x, y, ks, rfl, ax, ay, hf, hT, k⟩
      refine ⟨_, rfl, rfl, _, rfl, ite2 (fun e => ?_) (fun e => ?_)⟩
      · refine ⟨_, rfl, by show 0 ≤ sizeLine; decide, fun l nl => ?_⟩
        have s1 := same_new (o := .lst []) nl
        refine ⟨_, _, dp_pts (SqL.of (s1 _ _ hf)) (hT.same s1), .lst (SqL.of upd_same) .nil, shaped_pts _, shaped_pts [], _, rfl, ite2 (fun e2 => ?_) (fun e2 => ?_)⟩
        · refine ⟨_, rfl, .inl ⟨_, rfl, _, _, rfl, rfl, by show (0 : Int) < 2; decide, _, rfl, .inl ⟨_, rfl, _, _, rfl, rfl, by show (0 : Int) < 2; decide, _, _, rfl, ?_⟩⟩⟩
          exact k _ _ _ s1 ab_mod ab_mod
        · exact k _ _ _ s1 ax ay
      · exact iteF (k _ _ _ (Same.refl _) ax ay)
    refine ⟨_, rfl, p, 7, n, rfl, by decide, by decide, hb, by omega, fun way H1 a0 a1 d1 _ => ?_⟩
    refine ⟨_, rfl, p, 5, n + 1, rfl, by decide, by decide, d1.bag, by omega, fun left H2 b0 b1 d2 _ => ⟨_, _, rfl, rfl, ?_⟩⟩
    refine ⟨_, rfl, p, 5, n + 2, rfl, by decide, by decide, d2.bag, by omega, fun up H3 c0 c1 d3 _ => ⟨_, _, rfl, rfl, _, _, _, rfl, ?_⟩⟩
    have dA : Drew p H H3 (n + 3) := d1.then (d2.then d3)
    refine ⟨p, many, wide, way, left - 2, up - 2, rfl, ⟨by omega, by omega⟩, ⟨by omega, by omega⟩, fun l u al au hw => ?_⟩
    refine ⟨by show 0 ≤ sizeLine; decide, fun g ng => ?_⟩
    have dB : Drew p H (upd H3 g (.lst [])) (n + 3) := dA.new (same_new ng)
    have gH : H g = none := dA.free ng
    have gp : g ≠ p := fun z => by
      obtain ⟨_, _, _, e, _⟩ := dA.bag
      rw [z, e] at ng
      cases ng
    refine ⟨_, rfl, many, rfl, by omega, by omega, ?_⟩
    refine for_range (lo := 0) (fun i σ H' => ∃ (ks : Pts) (y7 y8 y9 : Option V), σ = [some (.ref p), some (.int many), some (.int wide), some (.int way), some (.int l), some (.int u), some (.ref g), y7, y8, y9] ∧ Drew p H H' (n + 3 + 2 * i) ∧ H' g = some (.lst (refs ks)) ∧ At K H' ks ∧ (∀ q ∈ ks, Co q.2) ∧ ks.length = i) ?_ ?_ ?_
    · exact ⟨[], none, none, none, rfl, dB, upd_same, fun q hq => (nomatch hq), fun q hq => (nomatch hq), rfl⟩
    · rintro i σ H' hi ⟨ks, y7, y8, y9, rfl, dr, hg, hT, hC, lk⟩
      have hi2 : i < many := by omega
      refine ⟨_, rfl, _, rfl, p, wide, n + 3 + 2 * i, rfl, w0, Int.lt_of_le_of_lt w1 (by decide), dr.bag, by omega, fun x H5 x0 x1 d5 o5 => ?_⟩
      refine ⟨_, rfl, _, rfl, p, wide, n + 3 + 2 * i + 1, rfl, w0, Int.lt_of_le_of_lt w1 (by decide), d5.bag, by omega, fun y H6 y0 y1 d6 o6 => ?_⟩
      have g6 : H6 g = some (.lst (refs ks)) := by rw [o6 g gp, o5 g gp]; exact hg
      have T6 : At K H6 ks := At.drew (At.drew hT dr.bag d5) d5.bag d6
      have dr6 : Drew p H H6 (n + 3 + 2 * i + 2) := dr.then (d5.then d6)
      have w2 : wide ≤ 100000000000000000000000000000 := w1
      refine ⟨_, _, rfl, p, g, many, wide, way, l, u, _, x, y, rfl, x0, by show x ≤ 100000000000000000000000000000; omega, y0, by show y ≤ 100000000000000000000000000000; omega, hw, fun x2 y2 ax ay same => ?_⟩
      refine ⟨p, g, many, wide, way, l, u, _, x2, y2, rfl, ax, ay, fun e2 => ?_, fun x3 y3 ax ay => ?_⟩
      · obtain ⟨e3, _⟩ := same (by omega)
        rw [e3]
        exact ⟨x0, Int.le_of_lt x1⟩
      refine ⟨p, g, many, wide, way, l, u, _, x3, y3, ks, rfl, ax, ay, g6, T6, fun H7 x4 y4 s7 ax ay => ?_⟩
      refine ⟨.ref g, rfl, .inl ⟨rfl, _, SqL.of (s7 _ _ g6)⟩, _, rfl, _, rfl, _, _, rfl, rfl, _, rfl, _, rfl, _, _, rfl, rfl, by show 2 ≤ sizeLine; decide, fun t nt => ?_⟩
      have g8 : (upd H7 t (.tup [.int (l + x4), .int (u + y4)])) g = some (.lst (refs ks)) := (same_new nt) _ _ (s7 _ _ g6)
      refine ⟨g, refs ks, .ref t, rfl, rfl, g8, by rw [refs_len]; exact Nat.lt_of_lt_of_le (show ks.length < 21 by omega) (by decide), ?_⟩
      have s8 := s7.trans (same_new (o := .tup [.int (l + x4), .int (u + y4)]) nt)
      have T8 := T6.same s8
      have tg : t ≠ g := fun z => by
        rw [z] at nt
        rw [s7 _ _ g6] at nt
        cases nt
      refine ⟨ks ++ [(t, (l + x4, u + y4))], _, _, _, rfl, ⟨fun b o bn e => ?_, ?_⟩, ?_, fun q hq => ?_, fun q hq => ?_, ?_⟩
      · rw [upd_ne (ne_of_none e gH)]
        exact (dr6.new s8).x b o bn e
      · obtain ⟨d0, m0, c0, e0, r0⟩ := ((dr6.new s8).bag.more (show n + 3 + 2 * i + 2 ≤ n + 3 + 2 * (i + 1) by omega))
        exact ⟨d0, m0, c0, (upd_ne (Ne.symm gp)).trans e0, r0⟩
      · rw [upd_same]
        simp [refs]
      · rcases List.mem_append.mp hq with z | z
        · exact L2.SqT.put (T8 q z) g8 SameX.put
        · rw [List.mem_singleton.mp z]
          refine SqT.of ?_
          rw [upd_ne tg]
          exact upd_same
      · rcases List.mem_append.mp hq with z | z
        · exact hC q z
        · rw [List.mem_singleton.mp z]
          exact co_add al au ax ay
      · rw [List.length_append, List.length_singleton, lk]
    · rintro σ H' ⟨ks, y7, y8, y9, rfl, dr, hg, hT, hC, lk⟩
      rw [show (many : Int).toNat = many from Int.toNat_natCast many] at dr lk
      exact ⟨_, rfl, q _ g ks ⟨dr.x, dr.bag.more (by omega)⟩ gH gp hg hT hC lk⟩
end
end K2

set_option maxRecDepth 100000
set_option maxHeartbeats 1000000
set_option exponentiation.threshold 20000
namespace K2
open PySem PySem.Spec PyProof.Rows L2 Fen
abbrev sTold : Stmt := topS 30
theorem scTold : FnScope ["_law_bottom", "_law_points_here", "_law_found", "e"] ["_law_bottom", "_law_points_here"] (defScope sTold) := ⟨rfl, rfl, rfl, by decide +kernel, rfl, by decide +kernel, by decide +kernel⟩
section
variable {P : Program} {w : World} {K : PySem.W.Frag} {mg : Str → Option Value} {base : Heap}
def spTold (K : PySem.W.Frag) : Sp := fun vs H Q _ => ∃ (b : Int) (a : Addr) (ks : Pts), vs = [.int b, .ref a] ∧ 1 ≤ b ∧ b ≤ 30 ∧ SqL K H a (refs ks) ∧ At K H ks ∧ (∀ p ∈ ks, Co p.2) ∧ 1 ≤ ks.length ∧ ks.length ≤ 20 ∧
  (∀ H' s, Same H H' → AscOf ks s → 10 < (hul s).length → Q .non H') ∧
  ∀ H' t w e hs s, Same H H' → FenAt H H' b t w e hs → (∀ p ∈ hs, p ∈ ks) → AscOf ks s → hs.map (·.2) = hul s → (hul s).length ≤ 10 → Q (.ref t) H'
theorem ok_told {f fF C : Addr} {fd fdF : FuncData} {k : Nat} (F : Fun K "_law_told" "_law_told" sTold f fd) (I : Imp K mg C) (OF : FnOk P w K mg base (L2.CX P w) (k + 1) fF fdF ["bottom", "points"] (spFen K C)) (kF : PySem.W.keepIn K (.ref fF) = true) (bF : Binds K fdF ["bottom", "points"] []) (gF : mg "fence_of" = some (.ref fF)) :
    FnOk P w K mg base CX0 (k + 1 + 1) f fd ["_law_bottom", "_law_points_here"] (spTold K) := by
  refine F.ok scTold (fun vs H Q E h => ?_) (fun cdv A outer s H vs Q E hr h => ?_)
  · obtain ⟨b, a, ks, rfl, _⟩ := h
    rfl
  · obtain ⟨b, a, ks, rfl, b1, b2, hS, hT, co, l1, l2, k1, k2⟩ := h
    refine ⟨_, pss_cons (ps_set (i := 2) scTold.nd rfl (.inl rfl) pe_non)
      (pss_cons (ps_try_as (i := 3) (tb := fun W => tAsg (tCallS (spFen K C) (WE W) (tCons (tVar 0) (tCons (tVar 1) tNil))) (gName 2)) (ts := fun _ _ _ => tAsg (tC .non) (gName 2)) (Wout := fun _ _ _ _ => False) rfl rfl scTold.nd rfl rfl ⟨rfl, by decide, .inl I.gP⟩ takes0
        (fun W pn xe tk _ => pss_one (ps_set (i := 2) scTold.nd rfl (.inl rfl) (by exact (pe_callS OF hr rfl gF kF bF (fun σ => passAt tk σ) (by exact (pa_cons (pv 0) (pa_cons (pv 1) pa_nil)))))))
        (fun a oe cls d pn hz hf => pss_one (ps_set (i := 2) scTold.nd rfl (.inl rfl) (by exact pe_non))))
      (pss_one (ps_ret (pv 2)))), ?_⟩
    refine ⟨_, rfl, _, rfl, b, a, ks, rfl, b1, b2, hS, hT, co, l1, l2, fun H' s sm as lg => ?_, fun H' t w e hs s sm fa sub as e2 lg => ?_⟩
    · refine ⟨true, I.eP, fun _ a0 _ => ?_, fun q => Bool.noConfusion q⟩
      exact ⟨_, rfl, k1 H' s sm as lg⟩
    · exact ⟨_, rfl, k2 H' t w e hs s sm fa sub as e2 lg⟩
end
end K2

set_option maxRecDepth 100000
set_option maxHeartbeats 1000000
set_option exponentiation.threshold 20000
namespace L2
open PySem PySem.Spec PyProof.Rows
/-- the written part named: within a comprehension -/
theorem or_K {X : Cx} {f : Value → Value → Sem Value} {r : PySem.W.Frag → R2} (h : OpR X f (r X.K)) (K : PySem.W.Frag) (hK : X.K = K) : OpR X f (r K) := by
  subst hK
  exact h
theorem cut_from (xs : List V) (n : Nat) : cutV xs (some (n : Int)) none = xs.drop n := by
  unfold cutV
  rw [HT.sIx_none, show HT.sIx xs.length 0 (some (n : Int)) = min n xs.length from HT.sIx_nat xs.length 0 n]
  by_cases h : n ≤ xs.length
  · rw [Nat.min_eq_left h]
    exact List.take_of_length_le (by rw [List.length_drop]; exact Nat.le_refl _)
  · rw [Nat.min_eq_right (by omega), Nat.sub_self, List.take_zero, List.drop_eq_nil_of_le (by omega)]
theorem rot_get {α : Type} (l : List α) {k i : Nat} (hk : k ≤ l.length) (hi : i < l.length) : (l.drop k ++ l.take k)[i]? = l[(i + k) % l.length]? := by
  by_cases h : i + k < l.length
  · rw [Nat.mod_eq_of_lt h, List.getElem?_append_left (by rw [List.length_drop]; omega), List.getElem?_drop, Nat.add_comm]
  · have e : (i + k) % l.length = i + k - l.length := by rw [Nat.mod_eq_sub_mod (by omega), Nat.mod_eq_of_lt (by omega)]
    rw [e, List.getElem?_append_right (by rw [List.length_drop]; omega), List.length_drop, List.getElem?_take_of_lt (by omega)]
    congr 1
    omega
end L2
namespace Fen
open PySem PySem.Spec PyProof.Rows L2
theorem min_is {ks : Pts} {m : Hull.P} (hm : m ∈ ks.map (·.2)) (hl : ∀ x ∈ ks.map (·.2), x ≠ m → Hull.Lt m x) {p : Addr × Hull.P} (hp : p ∈ ks) (hb : ∀ r ∈ ks, lexO r.2 p.2 = false) : p.2 = m := by
  refine Classical.byContradiction fun n => ?_
  obtain ⟨r, hr, e⟩ := List.mem_map.mp hm
  have z := hl p.2 (List.mem_map.mpr ⟨p, hp, rfl⟩) n
  have y := hb r hr
  rw [e, lexO_iff.mpr z] at y
  cases y
theorem max_is {ks : Pts} {m : Hull.P} (hm : m ∈ ks.map (·.2)) (hl : ∀ x ∈ ks.map (·.2), x ≠ m → Hull.Lt x m) {p : Addr × Hull.P} (hp : p ∈ ks) (hb : ∀ r ∈ ks, lexO p.2 r.2 = false) : p.2 = m := by
  refine Classical.byContradiction fun n => ?_
  obtain ⟨r, hr, e⟩ := List.mem_map.mp hm
  have z := hl p.2 (List.mem_map.mpr ⟨p, hp, rfl⟩) n
  have y := hb r hr
  rw [e, lexO_iff.mpr z] at y
  cases y
theorem refs_drop_n (ks : Pts) (n : Nat) : (refs ks).drop n = refs (ks.drop n) := by unfold refs; rw [List.map_drop]
theorem refs_take_n (ks : Pts) (n : Nat) : (refs ks).take n = refs (ks.take n) := by unfold refs; rw [List.map_take]
theorem refs_app (ks ls : Pts) : refs ks ++ refs ls = refs (ks ++ ls) := by unfold refs; rw [List.map_append]
end Fen
namespace K2
open PySem PySem.Spec PyProof.Rows L2 Fen
abbrev sAr : Stmt := topS 31
abbrev nAr : List Str := ["_law_corners", "_law_points_here", "_law_flat", "_law_one", "_law_two", "_law_three", "_law_corner", "_law_point"]
theorem scAr : FnScope nAr ["_law_corners", "_law_points_here"] (defScope sAr) := ⟨rfl, rfl, rfl, by decide +kernel, rfl, by decide +kernel, by decide +kernel⟩
section
variable {P : Program} {w : World} {K : PySem.W.Frag} {mg : Str → Option Value} {base : Heap}
structure Nm2 (mg : Str → Option Value) : Prop where
  mmin : mg "min" = none
  mmax : mg "max" = none
  mzip : mg "zip" = none
def spAr (K : PySem.W.Frag) : Sp := fun vs H Q _ => ∃ (x a : Addr) (hs ks : Pts) (s : List Hull.P), vs = [.ref x, .ref a] ∧ H x = some (.lst (refs hs)) ∧ SqL K H a (refs ks) ∧ At K H ks ∧ (∀ p ∈ ks, Co p.2) ∧ (∀ p ∈ hs, p ∈ ks) ∧ AscOf ks s ∧ hs.map (·.2) = hul s ∧ 1 ≤ ks.length ∧ ks.length ≤ 20 ∧ hs.length ≤ 20 ∧
  ∀ H', Same H H' → Q (.bl true) H'
theorem ok_ar {f fT : Addr} {fd fdT : FuncData} {k : Nat} (F : Fun K "_law_around" "_law_around" sAr f fd) (FT : Fun K "_law_turn" "_law_turn" sTurnL fT fdT) (bT : Binds K fdT ["_law_one", "_law_two", "_law_three"] []) (gT : mg "_law_turn" = some (.ref fT)) (T : Nms mg) (T2 : Nm2 mg) :
    FnOk P w K mg base CX0 (k + 1 + 1) f fd ["_law_corners", "_law_points_here"] (spAr K) := by
  have OT : FnOk P w K mg base CX0 1 fT fdT ["_law_one", "_law_two", "_law_three"] (spTurn K) := ok_TurnL FT
  refine F.ok scAr (fun vs H Q E h => ?_) (fun cdv A outer s H vs Q E hr h => ?_)
  · obtain ⟨x, a, hs, ks, s, rfl, _⟩ := h
    rfl
  · obtain ⟨x, a, hs, ks, asc, rfl, hx, hS, hT, co, sub, ⟨as1, as2⟩, e2, l1, l2, l3, q⟩ := h
    have h1 : Room 1 (A.deeper (envOfC "_law_around" (defScope sAr) s.heap.objs.size f cdv)) := hr.mono (by omega)
    have hu8 : (A.deeper (envOfC "_law_around" (defScope sAr) s.heap.objs.size f cdv)).units + 8 < cLine := by have := hr.un; omega
    have hu65 : (A.deeper (envOfC "_law_around" (defScope sAr) s.heap.objs.size f cdv)).units + 65 < cLine := by have := hr.un; omega
    refine ⟨_, pss_cons (ps_if (PW.pt (pw_or (pt_not (pt_val (pe_callB call_isi (by rfl) T.mii (by decide +kernel) (pa_cons (pv 0) (pa_cons (pe_bltn (v := .ty "list") (by rfl) T.mlst (by decide +kernel) rfl) pa_nil)))))
        (pw_or (pt_cmpR (op_eqD (hu_of64 h1)) (pv 0) (pe_lst pa_nil) (nomark _))
        (pw_or1 (pt_cmpR (op_neD (hu_of64 h1)) (pe_lc (own := [("_law_corner", 6)]) (g := gName 6) (tt := tTest (tOp (rNotInD K) (tVar 6) (tVar 1))) rfl scAr.nd (pi_list (pv 0)) (blkOk_by (N := nAr) (sc := defScope sAr) (by decide +kernel)) (fun _ _ _ _ _ => pg_name (i := 6) scAr.nd rfl (Or.inl rfl)) (fun _ _ _ _ _ => pts_one (pt_cmpR (or_K (op_notInD hu65) K rfl) (pv 6) (pv 1) (by rfl))) (fun _ _ _ _ _ => pe_int)) (pe_lst pa_nil) (nomark _)))))) (pss_one (ps_ret pe_bl)) pss_nil)
      (pss_cons (ps_if (PW.pt (pw_or (pt_cmpR (op_neD (hu_of64 h1)) (pe_callB (cr_minP rfl hu8) (by rfl) T2.mmin (by decide +kernel) (pa_cons (pv 0) pa_nil)) (pe_ix ix_list (pv 0) pe_int (fun _ _ => rfl)) (nomark _))
        (pw_or (pt_cmpR (op_neD (hu_of64 h1)) (pe_callB (cr_minP rfl hu8) (by rfl) T2.mmin (by decide +kernel) (pa_cons (pv 1) pa_nil)) (pe_ix ix_list (pv 0) pe_int (fun _ _ => rfl)) (nomark _))
        (pw_or1 (pt_cmpR op_eq (pe_callB call_len_seq (by rfl) T.mlen PySem.boot_len (pa_cons (pv 0) pa_nil)) pe_int (nomark _))))))
        (pss_one (ps_ret (pe_and (pe_cmpR (op_eqD (hu_of64 h1)) (pv 0) (pe_lst (pa_cons (pe_callB (cr_minP rfl hu8) (by rfl) T2.mmin (by decide +kernel) (pa_cons (pv 1) pa_nil)) pa_nil)) (nomark _))
          (pe_and1 (pe_cmpR (op_eqD (hu_of64 h1)) (pe_callB (cr_maxP rfl hu8) (by rfl) T2.mmax (by decide +kernel) (pa_cons (pv 1) pa_nil)) (pe_ix ix_list (pv 0) pe_int (fun _ _ => rfl)) (nomark _)))))) pss_nil)
      (pss_cons (ps_if (pt_cmpR op_eq (pe_callB call_len_seq (by rfl) T.mlen PySem.boot_len (pa_cons (pv 0) pa_nil)) pe_int (nomark _))
        (pss_cons ((ps_setLc (i := 2) (own := [("_law_point", 7)]) (g := gName 7) (tt := _) rfl scAr.nd rfl rfl (sw_true rfl rfl rfl (by decide +kernel)) (pi_list (pv 1)) (blkOk_by (N := nAr) (sc := defScope sAr) (by decide +kernel)) (fun _ _ _ _ _ => pg_name (i := 7) scAr.nd rfl (Or.inl rfl))
            (fun _ _ _ _ _ => pts_one (pt_cmpR op_eq (pe_call OT h1 (by rfl) gT FT.kp bT .nil pass0 (pa_cons (pe_ix (r := rIxL K) ix_list (pv 0) pe_int (fun _ _ => rfl)) (pa_cons (pe_ix (r := rIxL K) ix_list (pv 0) pe_int (fun _ _ => rfl)) (pa_cons (pv 7) pa_nil)))) pe_int (nomark _))) (fun _ _ _ _ _ => pv 7)))
        (pss_one (ps_ret (pe_and (pe_cmpR (op_eqD (hu_of64 h1)) (pv 2) (pv 1) (nomark _))
          (pe_and1 (pe_cmpR (op_eqD (hu_of64 h1)) (pv 0) (pe_lst (pa_cons (pe_callB (cr_minP rfl hu8) (by rfl) T2.mmin (by decide +kernel) (pa_cons (pv 1) pa_nil)) (pa_cons (pe_callB (cr_maxP rfl hu8) (by rfl) T2.mmax (by decide +kernel) (pa_cons (pv 1) pa_nil)) pa_nil))) (nomark _))))))) pss_nil)
      (pss_cons (ps_for PassesOwn.never rfl (pi_zip3 (by rfl) T2.mzip (pa_cons (pv 0) (pa_cons (pe_op op_cat (pe_slice sl_list (pv 0) (po_some pe_int) po_none) (pe_slice sl_list (pv 0) po_none (po_some pe_int))) (pa_cons (pe_op op_cat (pe_slice sl_list (pv 0) (po_some pe_int) po_none) (pe_slice sl_list (pv 0) po_none (po_some pe_int))) pa_nil))))
          (pg_tup rfl (pgs_cons (pg_name (i := 3) scAr.nd rfl (.inr rfl)) (pgs_cons (pg_name (i := 4) scAr.nd rfl (.inr rfl)) (pgs_cons (pg_name (i := 5) scAr.nd rfl (.inl rfl)) pgs_nil))))
        (pss_one (ps_if (PW.pt (pw_or (pt_cmpR op_le (pe_call OT h1 (by rfl) gT FT.kp bT .nil pass0 (pa_cons (pv 3) (pa_cons (pv 4) (pa_cons (pv 5) pa_nil)))) pe_int (nomark _))
          (pw_or1 (pt_cmpR (op_neD (hu_of64 h1)) (pe_lc (own := [("_law_point", 7)]) (g := gName 7) (tt := _) rfl scAr.nd (pi_list (pv 1)) (blkOk_by (N := nAr) (sc := defScope sAr) (by decide +kernel)) (fun _ _ _ _ _ => pg_name (i := 7) scAr.nd rfl (Or.inl rfl))
            (fun _ _ _ _ _ => pts_one (pt_cmpR op_lt (pe_call OT h1 (by rfl) gT FT.kp bT .nil pass0 (pa_cons (pv 3) (pa_cons (pv 4) (pa_cons (pv 7) pa_nil)))) pe_int (nomark _))) (fun _ _ _ _ _ => pe_int)) (pe_lst pa_nil) (nomark _))))) (pss_one (ps_ret pe_bl)) pss_nil)))
      (pss_one (ps_ret pe_bl))))), ?_⟩
    have Th : At K H hs := hT.sub sub
    have la : 1 ≤ asc.length := by
      obtain ⟨p, hp⟩ : ∃ p, p ∈ ks := List.exists_mem_of_length_pos (by omega)
      exact List.length_pos_of_mem ((as2 p.2).mpr (List.mem_map.mpr ⟨p, hp, rfl⟩))
    obtain ⟨⟨m, c0, ms, least⟩, csub, cs⟩ := around as1 la
    rw [← e2] at c0 csub cs
    obtain ⟨h0, ht, rfl⟩ : ∃ h0 ht, hs = h0 :: ht := by
      cases hs with
      | nil => cases c0
      | cons h0 ht => exact ⟨h0, ht, rfl⟩
    obtain rfl : h0.2 = m := Option.some.inj c0
    have lk : ∀ x ∈ ks.map (·.2), x ≠ h0.2 → Hull.Lt h0.2 x := fun x hx => least x ((as2 x).mpr hx)
    have mk : h0.2 ∈ ks.map (·.2) := (as2 _).mp ms
    have mh : h0.2 ∈ (h0 :: ht).map (·.2) := List.mem_map.mpr ⟨h0, List.mem_cons_self, rfl⟩
    have lh : ∀ x ∈ (h0 :: ht).map (·.2), x ≠ h0.2 → Hull.Lt h0.2 x := fun x hx => least x (csub x hx)
    have kne : ks ≠ [] := fun z => by rw [z] at l1; simp at l1
    have nil2 : PyData.eqv (.list []) (.list []) = true := eqv_self (shaped_pts [])
    have at0 : ∀ l : Pts, atI (refs (h0 :: l)) 0 = some (.ref h0.1) := fun l => atI_nat (j := 0) (refs_at (p := h0) rfl)
    refine ⟨_, rfl, .ref x, .ty "list", .type "list", .type "list", true, rfl, .ty _, ty_lst (SqL.of hx), kit_ll, true, rfl, ?_⟩
    refine iteF ?_
    refine ⟨.ref x, rfl, by show 0 ≤ sizeLine; decide, fun n1 nn1 => ?_⟩
    have s1 : Same H (upd H n1 (.lst [])) := same_new nn1
    refine ⟨_, _, dp_pts (SqL.of (s1 _ _ hx)) (Th.same s1), .lst (SqL.of upd_same) .nil, shaped_pts _, shaped_pts [], _, rfl, ?_⟩
    rw [eqv_nil]
    refine iteF ?_
    generalize upd H n1 (.lst []) = H1 at s1 ⊢
    refine ⟨.ref x, rfl, x, rfl, ⟨_, SqL.of (s1 _ _ hx)⟩, fun D nD => ?_⟩
    refine lc_list (K := K) (a := x) (xs := refs (h0 :: ht)) (fun i H' => Same H1 H' ∧ H' D = some (.lst [])) ⟨same_new nD, upd_same⟩ (fun i H' _ z => SqL.of (z.1 _ _ (s1 _ _ hx))) (fun i v H' hv z => ?_) fun H2 z => ?_
    · obtain ⟨p, hp, rfl⟩ := refs_get hv
      have hp2 := List.mem_of_getElem? hp
      have sz := s1.trans z.1
      refine ⟨rfl, _, rfl, _, rfl, ptD p.2, _, dp_pt ((Th.same sz) p hp2), dp_pts (sz.seq hS) (hT.same sz), shaped_pt _, shaped_pts _, _, rfl, ?_⟩
      rw [any_mem (List.mem_map.mpr ⟨p, sub p hp2, rfl⟩)]
      exact iteF z
    obtain ⟨s2', hD⟩ := z
    have s2 := s1.trans s2'
    refine ⟨by show 0 ≤ sizeLine; decide, fun n2 nn2 => ?_⟩
    have s3 : Same H (upd H2 n2 (.lst [])) := s2.trans (same_new nn2)
    refine ⟨.list [], .list [], .lst (SqL.of ((same_new nn2) _ _ hD)) .nil, .lst (SqL.of upd_same) .nil, shaped_pts [], shaped_pts [], _, rfl, ?_⟩
    rw [nil2]
    refine iteF ?_
    generalize upd H2 n2 (.lst []) = H3 at s3 ⊢
    have hx3 := s3 _ _ hx
    have hS3 := s3.seq hS
    have Th3 := Th.same s3
    have hT3 := hT.same s3
    -- the least
    refine ⟨.ref x, rfl, x, h0 :: ht, rfl, SqL.of hx3, Th3, by simp, fun p hp hb => ?_⟩
    have ep : p.2 = h0.2 := min_is mh lh hp hb
    refine ⟨.ref x, rfl, x, _, 0, .ref h0.1, rfl, rfl, SqL.of hx3, at0 ht, ptD p.2, ptD h0.2, dp_pt (Th3 p hp), dp_pt (Th3 h0 List.mem_cons_self), shaped_pt _, shaped_pt _, _, rfl, ?_⟩
    rw [ep, eqv_self (shaped_pt _)]
    refine iteF ?_
    refine ⟨.ref a, rfl, a, ks, rfl, hS3, hT3, kne, fun p hp hb => ?_⟩
    have ep2 : p.2 = h0.2 := min_is mk lk hp hb
    refine ⟨.ref x, rfl, x, _, 0, .ref h0.1, rfl, rfl, SqL.of hx3, at0 ht, ptD p.2, ptD h0.2, dp_pt (hT3 p hp), dp_pt (Th3 h0 List.mem_cons_self), shaped_pt _, shaped_pt _, _, rfl, ?_⟩
    rw [ep2, eqv_self (shaped_pt _)]
    refine iteF ?_
    refine ⟨.ref x, rfl, x, _, rfl, .inl (SqL.of hx3), rfl, _, rfl, ite2 (fun c => ?_) (fun c => ?_)⟩
    · -- one corner
      rw [refs_len] at c
      have c1 : ((h0 :: ht).length : Int) = 1 := V.int.inj (of_decide_eq_true c)
      obtain rfl : ht = [] := by
        cases ht with
        | nil => rfl
        | cons y r => simp at c1; omega
      have all1 : ∀ y ∈ asc, y = h0.2 := by
        rcases cs with ⟨_, m', em, al⟩ | ⟨a', b', em, _⟩ | ⟨l3', _⟩
        · have : m' = h0.2 := (List.cons.inj em).1.symm
          intro y hy
          rw [al y hy, this]
        · cases em
        · simp at l3'
      refine ⟨.ref x, rfl, .ref a, rfl, a, ks, rfl, hS3, hT3, kne, fun p hp hb => ?_⟩
      have ep3 : p.2 = h0.2 := min_is mk lk hp hb
      refine ⟨by show 1 ≤ sizeLine; decide, fun n3 nn3 => ?_⟩
      have s4 := s3.trans (same_new (o := .lst [.ref p.1]) nn3)
      refine ⟨ptsD [h0.2], ptsD [p.2], dp_pts (ks := [h0]) (SqL.of (s4 _ _ hx)) (Th.same s4), .lst (SqL.of upd_same) (.cons (dp_pt ((hT.same s4) p hp)) .nil), shaped_pts _, shaped_pts _, _, rfl, ?_⟩
      rw [ep3, eqv_self (shaped_pts _), if_pos rfl]
      refine ⟨.ref a, rfl, a, ks, rfl, s4.seq hS, hT.same s4, kne, fun r hr hb2 => ?_⟩
      have er : r.2 = h0.2 := all1 _ ((as2 _).mpr (List.mem_map.mpr ⟨r, hr, rfl⟩))
      refine ⟨.ref x, rfl, x, _, 0, .ref h0.1, rfl, rfl, SqL.of (s4 _ _ hx), at0 [], ptD r.2, ptD h0.2, dp_pt ((hT.same s4) r hr), dp_pt ((Th.same s4) h0 List.mem_cons_self), shaped_pt _, shaped_pt _, ?_⟩
      rw [er, eqv_self (shaped_pt _)]
      exact q _ s4
    rw [refs_len] at c
    have c1 : ¬ ((h0 :: ht).length : Int) = 1 := fun z => c (decide_eq_true (by rw [z]))
    refine ⟨.ref x, rfl, x, _, rfl, .inl (SqL.of hx3), rfl, _, rfl, ite2 (fun d => ?_) (fun d => ?_)⟩
    · -- two corners
      rw [refs_len] at d
      have d1 : ((h0 :: ht).length : Int) = 2 := V.int.inj (of_decide_eq_true d)
      obtain ⟨h9, rfl⟩ : ∃ h9, ht = [h9] := by
        rcases ht with _ | ⟨y, _ | ⟨z, r⟩⟩
        · simp at d1
        · exact ⟨y, rfl⟩
        · simp at d1
          omega
      obtain ⟨inb, most, line⟩ : h9.2 ∈ asc ∧ (∀ y ∈ asc, y ≠ h9.2 → Hull.Lt y h9.2) ∧ ∀ y ∈ asc, Hull.turn h0.2 h9.2 y = 0 := by
        rcases cs with ⟨l1', _⟩ | ⟨a', b', em, r⟩ | ⟨l3', _⟩
        · simp at l1'
        · have e1 : a' = h0.2 := (List.cons.inj em).1.symm
          have e2 : b' = h9.2 := (List.cons.inj (List.cons.inj em).2).1.symm
          rw [e1, e2] at r
          exact r
        · simp at l3'
      have i9 : h9 ∈ [h0, h9] := by simp
      have at1 : atI (refs [h0, h9]) 1 = some (.ref h9.1) := atI_nat (j := 1) (refs_at (p := h9) rfl)
      refine ⟨.ref a, rfl, a, rfl, ⟨_, hS3⟩, fun D2 nD2 => ?_⟩
      refine lc_list (K := K) (a := a) (xs := refs ks) (fun i H' => Same H3 H' ∧ H' D2 = some (.lst (refs (ks.take i)))) ⟨same_new nD2, upd_same⟩ (fun i H' _ z => (s3.trans z.1).seq hS) (fun i v H' hv z => ?_) fun H4 z => ?_
      · obtain ⟨p, hp, rfl⟩ := refs_get hv
        have hp2 := List.mem_of_getElem? hp
        have sz := s3.trans z.1
        have ilt : i < ks.length := (List.getElem?_eq_some_iff.mp hp).1
        refine ⟨rfl, .ref x, rfl, x, _, 0, .ref h0.1, rfl, rfl, SqL.of (sz _ _ hx), at0 [h9], .ref x, rfl, x, _, 1, .ref h9.1, rfl, rfl, SqL.of (sz _ _ hx), at1, .ref p.1, rfl, h0.1, h9.1, p.1, h0.2, h9.2, p.2, rfl, (Th.same sz) h0 List.mem_cons_self, (Th.same sz) h9 i9, (hT.same sz) p hp2,
          (co h0 (sub h0 List.mem_cons_self)).sm, (co h9 (sub h9 i9)).sm, (co p hp2).sm, rfl, _, rfl, ?_⟩
        rw [line p.2 ((as2 _).mpr (List.mem_map.mpr ⟨p, hp2, rfl⟩))]
        refine iteT ⟨_, rfl, _, z.2, by rw [refs_len, List.length_take]; exact Nat.lt_of_lt_of_le (show min i ks.length < 21 by omega) (by decide), ?_, ?_⟩
        · exact fun b o e => by
            have nb : b ≠ D2 := fun y => by rw [y, nD2] at e; cases e
            rw [upd_ne nb]
            exact z.1 b o e
        · rw [upd_same, take_succ_at hp]
          simp [refs]
      · obtain ⟨s4', hD2⟩ := z
        rw [refs_len, List.take_length] at hD2
        have s4 := s3.trans s4'
        refine ⟨_, rfl, _, rfl, _, _, dp_pts (SqL.of hD2) (hT.same s4), dp_pts (s4.seq hS) (hT.same s4), shaped_pts _, shaped_pts _, _, rfl, ?_⟩
        rw [eqv_self (shaped_pts _), if_pos rfl]
        refine ⟨.ref x, rfl, .ref a, rfl, a, ks, rfl, s4.seq hS, hT.same s4, kne, fun p hp hb => ?_⟩
        refine ⟨.ref a, rfl, a, ks, rfl, s4.seq hS, hT.same s4, kne, fun r hr hb2 => ?_⟩
        have ep3 : p.2 = h0.2 := min_is mk lk hp hb
        have er : r.2 = h9.2 := max_is ((as2 _).mp inb) (fun y hy => most y ((as2 y).mpr hy)) hr hb2
        refine ⟨by show 2 ≤ sizeLine; decide, fun n3 nn3 => ?_⟩
        have s5 := s4.trans (same_new (o := .lst [.ref p.1, .ref r.1]) nn3)
        refine ⟨ptsD [h0.2, h9.2], ptsD [p.2, r.2], dp_pts (ks := [h0, h9]) (SqL.of (s5 _ _ hx)) (Th.same s5), .lst (SqL.of upd_same) (.cons (dp_pt ((hT.same s5) p hp)) (.cons (dp_pt ((hT.same s5) r hr)) .nil)), shaped_pts _, shaped_pts _, ?_⟩
        rw [ep3, er, eqv_self (shaped_pts _)]
        exact q _ s5
    -- three and more
    rw [refs_len] at d
    have d1 : ¬ ((h0 :: ht).length : Int) = 2 := fun z => d (decide_eq_true (by rw [z]))
    have n3 : 3 ≤ (h0 :: ht).length := by simp only [List.length_cons] at c1 d1 ⊢; omega
    obtain ⟨_, poly⟩ : 3 ≤ ((h0 :: ht).map (·.2)).length ∧ _ := by
      rcases cs with ⟨l1', _⟩ | ⟨a', b', em, r⟩ | g
      · rw [List.length_map] at l1'
        omega
      · have := congrArg List.length em
        rw [List.length_map] at this
        simp only [List.length_cons, List.length_nil] at this n3
        omega
      · exact g
    clear c d c1 d1 c0 mh lh cs csub
    generalize hhs : h0 :: ht = hs at *
    have lr : ∀ j, (hs.drop j ++ hs.take j).length = hs.length := fun j => by rw [List.length_append, List.length_drop, List.length_take]; omega
    refine ⟨.ref x, rfl, .ref x, rfl, 1, rfl, x, _, rfl, SqL.of hx3, fun y1 ny1 => ?_⟩
    rw [show (1 : Int) = ((1 : Nat) : Int) from rfl, cut_from, refs_drop_n]
    refine ⟨.ref x, rfl, ((1 : Nat) : Int), rfl, x, _, rfl, SqL.of ((same_new ny1) _ _ hx3), fun y2 ny2 => ?_⟩
    rw [cut_to, refs_take_n]
    refine ⟨y1, y2, _, _, rfl, rfl, (same_new ny2) _ _ upd_same, upd_same, ?_, fun y3 ny3 => ?_⟩
    · rw [refs_len, refs_len, List.length_drop, List.length_take]
      exact sz20 (by omega)
    rw [refs_app]
    have s4 := s3.trans ((same_new ny1).trans ((same_new ny2).trans (same_new (o := .lst (refs (hs.drop 1 ++ hs.take 1))) ny3)))
    refine ⟨.ref x, rfl, 2, rfl, x, _, rfl, SqL.of (s4 _ _ hx), fun y4 ny4 => ?_⟩
    rw [show (2 : Int) = ((2 : Nat) : Int) from rfl, cut_from, refs_drop_n]
    refine ⟨.ref x, rfl, ((2 : Nat) : Int), rfl, x, _, rfl, SqL.of ((same_new ny4) _ _ (s4 _ _ hx)), fun y5 ny5 => ?_⟩
    rw [cut_to, refs_take_n]
    refine ⟨y4, y5, _, _, rfl, rfl, (same_new ny5) _ _ upd_same, upd_same, ?_, fun y6 ny6 => ?_⟩
    · rw [refs_len, refs_len, List.length_drop, List.length_take]
      exact sz20 (by omega)
    rw [refs_app]
    have s456 := (same_new (o := .lst (refs (hs.drop 2))) ny4).trans ((same_new (o := .lst (refs (hs.take 2))) ny5).trans (same_new (o := .lst (refs (hs.drop 2 ++ hs.take 2))) ny6))
    have s5 := s4.trans s456
    refine ⟨x, y3, y6, refs hs, refs (hs.drop 1 ++ hs.take 1), refs (hs.drop 2 ++ hs.take 2), rfl, SqL.of (s5 _ _ hx), SqL.of (s456 _ _ upd_same), SqL.of upd_same, ?_⟩
    refine for_it (walk_zip3 (K := K) (a := x) (b := y3) (c := y6) (xs := refs hs) (ys := refs (hs.drop 1 ++ hs.take 1)) (zs := refs (hs.drop 2 ++ hs.take 2)) (n := hs.length) (refs_len _) (by rw [refs_len, lr]) (by rw [refs_len, lr]))
      (fun e σ H' => ∃ z2 z3 z4 z5, σ = [some (.ref x), some (.ref a), z2, z3, z4, z5, none, none] ∧ Same H H' ∧ H' y3 = some (.lst (refs (hs.drop 1 ++ hs.take 1))) ∧ H' y6 = some (.lst (refs (hs.drop 2 ++ hs.take 2)))) ⟨_, _, _, _, rfl, s5, s456 _ _ upd_same, upd_same⟩ (fun e σ H' _ z => ?_) ?_ ?_
    · obtain ⟨_, _, _, _, _, z, g3, g6⟩ := z
      exact ⟨SqL.of (z _ _ hx), SqL.of g3, SqL.of g6⟩
    · rintro e v σ H7 H8 he ⟨z2, z3, z4, z5, rfl, s7, g3, g6⟩ ⟨U, x1, x2, x3, rfl, nU, rfl, e1, e2, e3⟩
      obtain ⟨p1, hp1, rfl⟩ := refs_get e1
      obtain ⟨p2, hp2, rfl⟩ := refs_get e2
      obtain ⟨p3, hp3, rfl⟩ := refs_get e3
      rw [rot_get hs (by omega) he] at hp2 hp3
      have m1 := List.mem_of_getElem? hp1
      have m2 := List.mem_of_getElem? hp2
      have m3 := List.mem_of_getElem? hp3
      have ma : ∀ {j : Nat} {p : Addr × Hull.P}, hs[j]? = some p → (hs.map (·.2))[j]? = some p.2 := fun {j p} h => by rw [List.getElem?_map, h]; rfl
      have lm : (hs.map (·.2)).length = hs.length := List.length_map ..
      obtain ⟨left, right⟩ := poly e p1.2 p2.2 p3.2 (by rw [lm]; exact he) (ma hp1) (by rw [lm]; exact ma hp2) (by rw [lm]; exact ma hp3)
      have s8 : Same H7 (upd H7 U (.tup [.ref p1.1, .ref p2.1, .ref p3.1])) := same_new nU
      have s9 := s7.trans s8
      have Th9 := Th.same s9
      refine ⟨U, _, rfl, SqT.of upd_same, rfl, .ref p1.1, [.ref p2.1, .ref p3.1], rfl, .ref p2.1, [.ref p3.1], rfl, .ref p3.1, [], rfl, rfl, ?_⟩
      refine ⟨.ref p1.1, rfl, .ref p2.1, rfl, .ref p3.1, rfl, p1.1, p2.1, p3.1, p1.2, p2.2, p3.2, rfl, Th9 p1 m1, Th9 p2 m2, Th9 p3 m3, (co p1 (sub p1 m1)).sm, (co p2 (sub p2 m2)).sm, (co p3 (sub p3 m3)).sm, _, _, rfl, rfl, _, rfl, ?_⟩
      rw [decide_eq_false (by omega)]
      refine iteF ?_
      generalize upd H7 U (.tup [.ref p1.1, .ref p2.1, .ref p3.1]) = H9 at s8 s9 Th9 ⊢
      refine ⟨.ref a, rfl, a, rfl, ⟨_, s9.seq hS⟩, fun D2 nD2 => ?_⟩
      refine lc_list (K := K) (a := a) (xs := refs ks) (fun i H' => Same H9 H' ∧ H' D2 = some (.lst [])) ⟨same_new nD2, upd_same⟩ (fun i H' _ z => (s9.trans z.1).seq hS) (fun i v H' hv z => ?_) fun H4 z => ?_
      · obtain ⟨p, hp, rfl⟩ := refs_get hv
        have hp2 := List.mem_of_getElem? hp
        have sz := s9.trans z.1
        refine ⟨rfl, .ref p1.1, rfl, .ref p2.1, rfl, .ref p.1, rfl, p1.1, p2.1, p.1, p1.2, p2.2, p.2, rfl, (Th.same sz) p1 m1, (Th.same sz) p2 m2, (hT.same sz) p hp2, (co p1 (sub p1 m1)).sm, (co p2 (sub p2 m2)).sm, (co p hp2).sm, _, _, rfl, rfl, _, rfl, ?_⟩
        have := right p.2 ((as2 _).mpr (List.mem_map.mpr ⟨p, hp2, rfl⟩))
        rw [decide_eq_false (by omega)]
        exact iteF z
      · obtain ⟨t4, hD2⟩ := z
        have s10 := s9.trans t4
        refine ⟨by show 0 ≤ sizeLine; decide, fun n4 nn4 => ?_⟩
        have s11 := s10.trans (same_new (o := .lst []) nn4)
        refine ⟨.list [], .list [], .lst (SqL.of ((same_new nn4) _ _ hD2)) .nil, .lst (SqL.of upd_same) .nil, shaped_pts [], shaped_pts [], _, rfl, ?_⟩
        rw [nil2]
        refine iteF ?_
        have sA := s8.trans (t4.trans (same_new (o := .lst []) nn4))
        exact ⟨_, _, _, _, rfl, s11, sA _ _ g3, sA _ _ g6⟩
    · rintro σ H7 ⟨z2, z3, z4, z5, rfl, s7, _⟩
      exact q _ s7
end
end K2

set_option maxRecDepth 100000
set_option maxHeartbeats 1000000
set_option exponentiation.threshold 20000
namespace K2
open PySem PySem.Spec PyProof.Rows L2 Fen
abbrev sMix : Stmt := topS 32
theorem scMix : FnScope ["_law_bag_here", "_law_points_here", "_law_left", "_law_found", "_law_at"] ["_law_bag_here", "_law_points_here"] (defScope sMix) := ⟨rfl, rfl, rfl, by decide +kernel, rfl, by decide +kernel, by decide +kernel⟩
theorem Drew.list_ne {p : Addr} {H H' : Hp} {n : Nat} (d : Drew p H H' n) {b : Addr} (h : H' b = none) : b ≠ p := fun z => by
  obtain ⟨_, _, _, e, _⟩ := d.bag
  rw [z, e] at h
  cases h
theorem BagAt.ne {p : Addr} {H : Hp} {n : Nat} (d : BagAt H p n) {b : Addr} (h : H b = none) : b ≠ p := fun z => by
  obtain ⟨_, _, _, e, _⟩ := d
  rw [z, e] at h
  cases h
/-- something that was new is written -/
theorem Drew.put {p g : Addr} {H H' : Hp} {n : Nat} {o : HO} (d : Drew p H H' n) (hg : H g = none) (gp : g ≠ p) : Drew p H (upd H' g o) n := by
  refine ⟨fun b u bn e => ?_, ?_⟩
  · rw [upd_ne (ne_of_none e hg)]
    exact d.x b u bn e
  · obtain ⟨a1, a2, a3, e, r⟩ := d.bag
    exact ⟨a1, a2, a3, (upd_ne (Ne.symm gp)).trans e, r⟩
theorem perm_cut {α : Type} {ls fs ks : List α} {i : Nat} {x : α} (h : (ls ++ fs).Perm ks) (e : ls[i]? = some x) : ((ls.take i ++ ls.drop (i + 1)) ++ (fs ++ [x])).Perm ks := by
  refine List.Perm.trans ?_ h
  have hi : i < ls.length := (List.getElem?_eq_some_iff.mp e).1
  have e2 : ls = ls.take i ++ x :: ls.drop (i + 1) := by
    have := List.take_append_drop i ls
    rw [List.drop_eq_getElem_cons hi] at this
    rw [show ls[i] = x from Option.some.inj ((List.getElem?_eq_getElem hi).symm.trans e)] at this
    exact this.symm
  generalize ls.take i = A at e2 ⊢
  generalize ls.drop (i + 1) = B at e2 ⊢
  rw [e2]
  have p1 : (A ++ B ++ (fs ++ [x])).Perm (x :: (A ++ B ++ fs)) := by
    rw [← List.append_assoc]
    exact List.perm_append_singleton x _
  refine p1.trans ?_
  have p2 : (A ++ x :: B ++ fs).Perm (x :: (A ++ B ++ fs)) := by
    have z : (A ++ x :: B).Perm (x :: (A ++ B)) := List.perm_middle
    exact z.append_right fs
  exact p2.symm
def Wm (K : PySem.W.Frag) (H : Hp) (p a G : Addr) (n : Nat) (ks : Pts) (m : Nat) (σ : L2.St) (H' : Hp) : Prop := ∃ (ls fs : Pts) (L : Addr) (y4 : Option V), m = ls.length ∧ σ = [some (.ref p), some (.ref a), some (.ref L), some (.ref G), y4] ∧ Drew p H H' (n + (ks.length - ls.length)) ∧ H' L = some (.lst (refs ls)) ∧ H' G = some (.lst (refs fs)) ∧ H L = none ∧ L ≠ G ∧ L ≠ p ∧ At K H' ks ∧ (ls ++ fs).Perm ks
section
variable {P : Program} {w : World} {K : PySem.W.Frag} {mg : Str → Option Value} {base : Heap}
def spMix (K : PySem.W.Frag) : Sp := fun vs H Q _ => ∃ (p a : Addr) (ks : Pts) (n : Nat), vs = [.ref p, .ref a] ∧ BagAt H p n ∧ n + 100 ≤ 1000000 ∧ SqL K H a (refs ks) ∧ At K H ks ∧ 1 ≤ ks.length ∧ ks.length ≤ 20 ∧
  ∀ H' f ls, Drew p H H' (n + 30) → H f = none → H' f = some (.lst (refs ls)) → At K H' ks → (∀ q, q ∈ ls ↔ q ∈ ks) → 1 ≤ ls.length → ls.length ≤ 20 → Q (.ref f) H'
theorem ok_mix {f fP : Addr} {fd fdP : FuncData} {k : Nat} (F : Fun K "_law_mixed" "_law_mixed" sMix f fd) (FP : Fun K "_law_pick" "_law_pick" sPick fP fdP) (bP : Binds K fdP ["_law_bag_here", "_law_many"] []) (gP : mg "_law_pick" = some (.ref fP)) (mi : mg "int" = none) (T : Nms mg) (T2 : Nm2 mg) :
    FnOk P w K mg base CX0 (k + 1 + 1) f fd ["_law_bag_here", "_law_points_here"] (spMix K) := by
  have OP : FnOk P w K mg base CX0 1 fP fdP ["_law_bag_here", "_law_many"] spPick := ok_pick FP mi
  refine F.ok scMix (fun vs H Q E h => ?_) (fun cdv A outer s H vs Q E hr h => ?_)
  · obtain ⟨p, a, ks, n, rfl, _⟩ := h
    rfl
  · obtain ⟨p, a, ks, n, rfl, hb, hn, hS, hT, l1, l2, q⟩ := h
    have h1 : Room 1 (A.deeper (envOfC "_law_mixed" (defScope sMix) s.heap.objs.size f cdv)) := hr.mono (by omega)
    refine ⟨_, pss_cons (ps_par (i := 2) (j := 3) rfl scMix.nd rfl rfl (by decide) rfl rfl (pa_cons (pe_callTy call_list_of (by rfl) T.mlst (by decide +kernel) (pa_cons (pv 1) pa_nil)) (pa_cons (pe_lst pa_nil) pa_nil)) (by rfl))
      (pss_cons (ps_while PassesOwn.never (pt_cmpR (op_neD (hu_of64 h1)) (pv 2) (pe_lst pa_nil) (nomark _))
        (pss_cons (ps_set (i := 4) scMix.nd rfl (.inl rfl) (pe_call OP h1 (by rfl) gP FP.kp bP .nil pass0 (pa_cons (pv 0) (pa_cons (pe_callB call_len_seq (by rfl) T.mlen PySem.boot_len (pa_cons (pv 2) pa_nil)) pa_nil))))
        (pss_cons (ps_expr (pe_bm PySem.F.plainAttrs_list PySem.F.slot_list_append PySem.F.type_list_append mt_append (pv 3) (pa_cons (pe_ix ix_list (pv 2) (pv 4) (fun _ _ => rfl)) pa_nil)))
        (pss_one (ps_set (i := 2) scMix.nd rfl (.inl rfl) (pe_op op_cat (pe_slice sl_list (pv 2) po_none (po_some (pv 4))) (pe_slice sl_list (pv 2) (po_some (pe_op op_add (pv 4) pe_int)) po_none)))))))
      (pss_one (ps_ret (pe_op op_cat (pv 3) (pe_slice sl_list (pv 3) po_none (po_some (pe_callB (call_max2 rfl) (by rfl) T2.mmax (by decide +kernel) (pa_cons pe_int (pa_cons (pe_callB (call_min2 rfl) (by rfl) T2.mmin (by decide +kernel)
          (pa_cons (pe_call OP h1 (by rfl) gP FP.kp bP .nil pass0 (pa_cons (pv 0) (pa_cons pe_int pa_nil))) (pa_cons (pe_op op_sub pe_int (pe_callB call_len_seq (by rfl) T.mlen PySem.boot_len (pa_cons (pv 3) pa_nil))) pa_nil))) pa_nil))))))))), ?_⟩
    refine ⟨.ref a, rfl, a, refs ks, rfl, .inl hS, fun L0 nL0 => ?_⟩
    refine ⟨by show 0 ≤ sizeLine; decide, fun G nG => ⟨_, _, rfl, ?_⟩⟩
    have s0 : Same H (upd (upd H L0 (.lst (refs ks))) G (.lst [])) := (same_new nL0).trans (same_new nG)
    have gH : H G = none := (same_new nL0).free nG
    have gp : G ≠ p := hb.ne gH
    have L0G : L0 ≠ G := ne_of_none upd_same nG
    refine ⟨Wm K H p a G n ks, ⟨_, ks, [], L0, none, rfl, rfl, ⟨s0.x, (hb.same s0).more (by omega)⟩, (same_new nG) _ _ upd_same, upd_same, nL0, L0G, hb.ne nL0, hT.same s0, by rw [List.append_nil]⟩, ?_⟩
    rintro m σ H' ⟨ls, fs, L, y4, rfl, rfl, dr, hL, hG, nL, LG, Lp, hT', pm⟩
    have lsum : ls.length + fs.length = ks.length := by rw [← List.length_append]; exact pm.length_eq
    refine ⟨_, rfl, by show 0 ≤ sizeLine; decide, fun n1 nn1 => ?_⟩
    have t1 : Same H' (upd H' n1 (.lst [])) := same_new nn1
    have subl : ∀ q ∈ ls, q ∈ ks := fun q hq => pm.mem_iff.mp (List.mem_append_left _ hq)
    have subf : ∀ q ∈ fs, q ∈ ks := fun q hq => pm.mem_iff.mp (List.mem_append_right _ hq)
    refine ⟨_, .list [], dp_pts (SqL.of (t1 _ _ hL)) ((hT'.sub subl).same t1), .lst (SqL.of upd_same) .nil, shaped_pts _, shaped_pts [], _, rfl, ?_⟩
    rw [eqv_nil]
    have dr1 := dr.new t1
    have hL1 := t1 _ _ hL
    have hG1 := t1 _ _ hG
    have hT1 := hT'.same t1
    generalize upd H' n1 (.lst []) = H5 at t1 dr1 hL1 hG1 hT1 ⊢
    cases ls with
    | nil =>
      refine iteF ?_
      have lf : fs.length = ks.length := by simpa using lsum
      refine ⟨.ref G, rfl, .ref G, rfl, _, rfl, p, 4, _, rfl, by decide, by decide, dr1.bag, by omega, fun r H6 r0 r1 d6 o6 => ?_⟩
      have hG6 : H6 G = some (.lst (refs fs)) := by rw [o6 G gp]; exact hG1
      obtain ⟨j, hj, ej⟩ : ∃ j : Nat, fs.length + j ≤ 20 ∧ (if (if (20 : Int) - ((refs fs).length : Int) < r then (20 : Int) - ((refs fs).length : Int) else r) > 0 then (if (20 : Int) - ((refs fs).length : Int) < r then (20 : Int) - ((refs fs).length : Int) else r) else 0) = (j : Int) := by
        refine ⟨(if (if (20 : Int) - ((refs fs).length : Int) < r then (20 : Int) - ((refs fs).length : Int) else r) > 0 then (if (20 : Int) - ((refs fs).length : Int) < r then (20 : Int) - ((refs fs).length : Int) else r) else 0).toNat, ?_, ?_⟩
        · rw [refs_len]
          split <;> split <;> omega
        · rw [refs_len]
          split <;> split <;> omega
      refine ⟨.ref G, rfl, G, _, rfl, .inl (SqL.of hG6), _, _, rfl, rfl, _, _, rfl, _, _, rfl, _, rfl, G, _, rfl, SqL.of hG6, fun c nc => ?_⟩
      rw [ej, cut_to, refs_take_n]
      refine ⟨G, c, _, _, rfl, rfl, (same_new nc) _ _ hG6, upd_same, ?_, fun z nz => ?_⟩
      · rw [refs_len, refs_len, List.length_take]
        exact sz20 (by omega)
      rw [refs_app]
      have s7 := (same_new (o := .lst (refs (fs.take j))) nc).trans (same_new (o := .lst (refs (fs ++ fs.take j))) nz)
      have dA := (dr1.then d6).new s7
      refine q _ z (fs ++ fs.take j) ⟨dA.x, dA.bag.more (by omega)⟩ ((dr1.then d6).new (same_new nc) |>.free nz) upd_same ((At.drew hT1 dr1.bag d6).same s7) (fun y => ?_) ?_ ?_
      · have pf : ∀ y, y ∈ fs ↔ y ∈ ks := fun y => pm.mem_iff
        rw [List.mem_append]
        exact ⟨fun h => h.elim (pf y).mp fun h => (pf y).mp (List.mem_of_mem_take h), fun h => .inl ((pf y).mpr h)⟩
      · rw [List.length_append]
        omega
      · rw [List.length_append, List.length_take]
        omega
    | cons l0 lt =>
      refine iteT ⟨fun σ' H' => ∃ m', m' < (l0 :: lt).length ∧ Wm K H p a G n ks m' σ' H', fun σ' H' z => z, ?_⟩
      have lpos : 0 < (l0 :: lt).length := by simp
      generalize l0 :: lt = ls at *
      refine ⟨_, rfl, .ref L, rfl, L, _, rfl, .inl (SqL.of hL1), p, ((refs ls).length : Int), _, rfl, ?_, ?_, dr1.bag, by omega, fun r H6 r0 r1 d6 o6 => ?_⟩
      · rw [refs_len]
        omega
      · rw [refs_len]
        exact Int.lt_of_le_of_lt (show (ls.length : Int) ≤ 20 by omega) (by decide)
      rw [refs_len] at r1
      obtain ⟨j, rfl⟩ : ∃ j : Nat, r = (j : Int) := ⟨r.toNat, by omega⟩
      have jl : j < ls.length := by omega
      obtain ⟨x, hx⟩ : ∃ x, ls[j]? = some x := ⟨_, List.getElem?_eq_getElem jl⟩
      have hG6 : H6 G = some (.lst (refs fs)) := by rw [o6 G gp]; exact hG1
      have hL6 : H6 L = some (.lst (refs ls)) := by rw [o6 L Lp]; exact hL1
      have hT6 : At K H6 ks := At.drew hT1 dr1.bag d6
      have dr6 := dr1.then d6
      refine ⟨.ref G, rfl, .inl ⟨rfl, _, SqL.of hG6⟩, .ref L, rfl, _, rfl, L, _, (j : Int), .ref x.1, rfl, rfl, SqL.of hL6, atI_nat (refs_at hx), G, refs fs, .ref x.1, rfl, rfl, hG6, ?_, ?_⟩
      · rw [refs_len]
        exact Nat.lt_of_lt_of_le (show fs.length < 21 by omega) (by decide)
      have dr7 : Drew p H (upd H6 G (.lst (refs fs ++ [.ref x.1]))) _ := dr6.put gH gp
      have hL7 : (upd H6 G (.lst (refs fs ++ [.ref x.1]))) L = some (.lst (refs ls)) := (upd_ne LG).trans hL6
      have hT7 : At K (upd H6 G (.lst (refs fs ++ [.ref x.1]))) ks := At.put hT6 hG6 SameX.put
      have hG7 : (upd H6 G (.lst (refs fs ++ [.ref x.1]))) G = some (.lst (refs (fs ++ [x]))) := by
        rw [upd_same]
        simp [refs]
      generalize upd H6 G (.lst (refs fs ++ [.ref x.1])) = H7 at dr7 hL7 hT7 hG7 ⊢
      refine ⟨.ref L, rfl, _, rfl, (j : Int), rfl, L, _, rfl, SqL.of hL7, fun c1 nc1 => ?_⟩
      rw [cut_to, refs_take_n]
      refine ⟨.ref L, rfl, _, rfl, _, _, rfl, rfl, (j : Int) + 1, rfl, L, _, rfl, SqL.of ((same_new nc1) _ _ hL7), fun c2 nc2 => ?_⟩
      rw [show (j : Int) + 1 = ((j + 1 : Nat) : Int) by omega, cut_from, refs_drop_n]
      refine ⟨c1, c2, _, _, rfl, rfl, (same_new nc2) _ _ upd_same, upd_same, ?_, fun L2 nL2 => ?_⟩
      · rw [refs_len, refs_len, List.length_take, List.length_drop]
        exact sz20 (by omega)
      rw [refs_app]
      have s8 := (same_new (o := .lst (refs (ls.take j))) nc1).trans ((same_new (o := .lst (refs (ls.drop (j + 1)))) nc2).trans (same_new (o := .lst (refs (ls.take j ++ ls.drop (j + 1)))) nL2))
      have d9 := dr7.new ((same_new (o := .lst (refs (ls.take j))) nc1).trans (same_new (o := .lst (refs (ls.drop (j + 1)))) nc2))
      have dA := dr7.new s8
      have ll : (ls.take j ++ ls.drop (j + 1)).length = ls.length - 1 := by
        rw [List.length_append, List.length_take, List.length_drop]
        omega
      refine ⟨_, ?_, _, fs ++ [x], L2, _, rfl, rfl, ⟨dA.x, dA.bag.more ?_⟩, upd_same, s8 _ _ hG7, d9.free nL2, ?_, d9.list_ne nL2, hT7.same s8, perm_cut pm hx⟩
      · rw [ll]
        omega
      · rw [ll]
        omega
      · intro z
        rw [z, ((same_new (o := .lst (refs (ls.take j))) nc1).trans (same_new (o := .lst (refs (ls.drop (j + 1)))) nc2)) _ _ hG7] at nL2
        cases nL2
end
end K2

set_option maxRecDepth 100000
set_option maxHeartbeats 1000000
set_option exponentiation.threshold 20000
namespace K2
open PySem PySem.Spec PyProof.Rows L2 Fen
abbrev sRt : Stmt := topS 33
theorem scRt : FnScope ["_law_bag_here", "_law_bottom", "_law_points_here", "_law_kept", "_law_due", "_law_found"] ["_law_bag_here", "_law_bottom", "_law_points_here"] (defScope sRt) := ⟨rfl, rfl, rfl, by decide +kernel, rfl, by decide +kernel, by decide +kernel⟩
theorem Co.sh {p : Hull.P} (h : Co p) : Sh p := by
  obtain ⟨a, b, c, d⟩ := h
  have e : (10 : Int) ^ 30 = 1000000000000000000000000000000 := by decide
  have e2 : (10 : Nat) ^ 31 = 10000000000000000000000000000000 := by decide
  rw [e] at a b c d
  unfold Sh
  rw [e2]
  omega
theorem asc_same {ks ls : Pts} {s t : List Hull.P} (h1 : AscOf ks s) (h2 : AscOf ls t) (h : ∀ q, q ∈ ls ↔ q ∈ ks) : s = t := asc_uniq h1.1 h2.1 fun x => by
  rw [h1.2, h2.2]
  simp only [List.mem_map]
  exact ⟨fun ⟨q, hq, e⟩ => ⟨q, (h q).mpr hq, e⟩, fun ⟨q, hq, e⟩ => ⟨q, (h q).mp hq, e⟩⟩
theorem asc_len {ks : Pts} {s : List Hull.P} (h : AscOf ks s) (hc : ∀ p ∈ ks, Co p.2) : ∀ x ∈ s, Sh x := fun x hx => by
  obtain ⟨p, hp, rfl⟩ := List.mem_map.mp ((h.2 x).mp hx)
  exact (hc p hp).sh
section
variable {P : Program} {w : World} {K : PySem.W.Frag} {mg : Str → Option Value} {base : Heap}
/-- the fence at t, as data -/
theorem dp_fen {H0 H : Hp} {b : Int} {t w e : Addr} {hs ks : Pts} (f : FenAt H0 H b t w e hs) (hT : At K H ks) (sub : ∀ p ∈ hs, p ∈ ks) : Dp K H (.ref t) (fenD b (hs.map (·.2))) :=
  .tup (SqT.of f.ht) (.cons (.int b) (.cons (dp_pts (SqL.of f.hw) (hT.sub sub)) (.cons (.lst (SqL.of f.he) .nil) .nil)))
theorem FenAt.drew {H0 H H' : Hp} {b : Int} {t w e p : Addr} {hs : Pts} {n m : Nat} (h : FenAt H0 H b t w e hs) (hb : BagAt H0 p n) (d : Drew p H H' m) : FenAt H0 H' b t w e hs :=
  ⟨h.nt, h.nw, h.ne, d.x _ _ (hb.ne h.nt) h.ht, d.x _ _ (hb.ne h.nw) h.hw, d.x _ _ (hb.ne h.ne) h.he, h.ap⟩
def spRt (K : PySem.W.Frag) : Sp := fun vs H Q _ => ∃ (p a : Addr) (b : Int) (ks : Pts) (n : Nat), vs = [.ref p, .int b, .ref a] ∧ BagAt H p n ∧ n + 100 ≤ 1000000 ∧ 1 ≤ b ∧ b ≤ 30 ∧ H a = some (.lst (refs ks)) ∧ a ≠ p ∧ At K H ks ∧ (∀ p ∈ ks, Co p.2) ∧ 1 ≤ ks.length ∧ ks.length ≤ 20 ∧
  ∀ H', Drew p H H' (n + 30) → Q (.bl true) H'
theorem ok_rt {f fH fT fA fM : Addr} {fd fdH fdT fdA fdM : FuncData} {k : Nat} (F : Fun K "_law_right" "_law_right" sRt f fd) (T : Nms mg) (T2 : Nm2 mg) (mrepr : mg "repr" = none)
    (OH : FnOk P w K mg base CX0 (k + 1) fH fdH ["_law_points_here"] (spHul K)) (kH : PySem.W.keepIn K (.ref fH) = true) (bH : Binds K fdH ["_law_points_here"] []) (gH : mg "_law_hull" = some (.ref fH))
    (OT : FnOk P w K mg base CX0 (k + 1) fT fdT ["_law_bottom", "_law_points_here"] (spTold K)) (kT : PySem.W.keepIn K (.ref fT) = true) (bT : Binds K fdT ["_law_bottom", "_law_points_here"] []) (gT : mg "_law_told" = some (.ref fT))
    (OA : FnOk P w K mg base CX0 (k + 1) fA fdA ["_law_corners", "_law_points_here"] (spAr K)) (kA : PySem.W.keepIn K (.ref fA) = true) (bA : Binds K fdA ["_law_corners", "_law_points_here"] []) (gA : mg "_law_around" = some (.ref fA))
    (OM : FnOk P w K mg base CX0 (k + 1) fM fdM ["_law_bag_here", "_law_points_here"] (spMix K)) (kM : PySem.W.keepIn K (.ref fM) = true) (bM : Binds K fdM ["_law_bag_here", "_law_points_here"] []) (gM : mg "_law_mixed" = some (.ref fM)) :
    FnG P w K mg base CX0 (k + 1 + 1) f fd ["_law_bag_here", "_law_bottom", "_law_points_here"] (spRt K) := by
  refine F.okG scRt (fun vs H Q E h => ?_) (fun cdv A outer s H vs Q E hgd hr h => ?_)
  · obtain ⟨p, a, b, ks, n, rfl, _⟩ := h
    rfl
  · obtain ⟨p, a, b, ks, n, rfl, hb, hn, b1, b2, hS, ap, hT, co, l1, l2, q⟩ := h
    refine ⟨_, pss_cons (ps_par (i := 3) (j := 4) rfl scRt.nd rfl rfl (by decide) rfl rfl (pa_cons (pe_callTy call_list_of (by rfl) T.mlst (by decide +kernel) (pa_cons (pv 2) pa_nil)) (pa_cons (pe_call OH hr (by rfl) gH kH bH .nil pass0 (pa_cons (pv 2) pa_nil)) pa_nil)) (by rfl))
      (pss_cons (ps_set (i := 5) scRt.nd rfl (.inl rfl) (pe_call OT hr (by rfl) gT kT bT .nil pass0 (pa_cons (pv 1) (pa_cons (pv 2) pa_nil))))
      (pss_cons (ps_if (PW.pt (pw_or (pt_cmpR (op_neD (hu_of64 hr)) (pv 2) (pv 3) (nomark _)) (pw_or1 (pt_cmpR op_ne (pe_cmpR op_isN (pv 5) pe_non (nomark _)) (pe_cmpR op_gt (pe_callB call_len_seq (by rfl) T.mlen PySem.boot_len (pa_cons (pv 4) pa_nil)) pe_int (nomark _)) (nomark _))))) (pss_one (ps_ret pe_bl)) pss_nil)
      (pss_cons (ps_if (pt_cmpR op_isN (pv 5) pe_non (nomark _)) (pss_one (ps_ret (pe_cmpR op_isN (pe_call OT hr (by rfl) gT kT bT .nil pass0 (pa_cons (pv 1) (pa_cons (pe_revL (pv 2)) pa_nil))) pe_non (nomark _)))) pss_nil)
      (pss_cons (ps_if (PW.pt (pw_or (pt_cmpR op_ne (pe_callB (call_reprD hgd hr) (by rfl) mrepr (by decide +kernel) (pa_cons (pv 5) pa_nil)) (pe_callB (call_reprD hgd hr) (by rfl) mrepr (by decide +kernel) (pa_cons (pe_tup (pa_cons (pv 1) (pa_cons (pv 4) (pa_cons (pe_lst pa_nil) pa_nil)))) pa_nil)) (nomark _))
          (pw_or1 (pt_not (pt_val (pe_call OA hr (by rfl) gA kA bA .nil pass0 (pa_cons (pe_ix ix_tup (pv 5) pe_int (fun _ _ => rfl)) (pa_cons (pv 2) pa_nil)))))))) (pss_one (ps_ret pe_bl)) pss_nil)
      (pss_cons (ps_if (pt_cmpR op_ne (pe_callB (call_reprD hgd hr) (by rfl) mrepr (by decide +kernel) (pa_cons (pe_call OT hr (by rfl) gT kT bT .nil pass0 (pa_cons (pv 1) (pa_cons (pe_call OM hr (by rfl) gM kM bM .nil pass0 (pa_cons (pv 0) (pa_cons (pv 2) pa_nil))) pa_nil))) pa_nil)) (pe_callB (call_reprD hgd hr) (by rfl) mrepr (by decide +kernel) (pa_cons (pv 5) pa_nil)) (nomark _)) (pss_one (ps_ret pe_bl)) pss_nil)
      (pss_cons (ps_expr (pe_bm0 PySem.F.plainAttrs_list PySem.F.slot_list_reverse PySem.F.type_list_reverse mt_reverse (pe_ix ix_tup (pv 5) pe_int (fun _ _ => rfl))))
      (pss_cons (ps_expr (pe_bm PySem.F.plainAttrs_list PySem.F.slot_list_append PySem.F.type_list_append mt_append (pe_ix ix_tup (pv 5) pe_int (fun _ _ => rfl)) (pa_cons pe_non pa_nil)))
      (pss_cons (ps_expr (pe_bm PySem.F.plainAttrs_list PySem.F.slot_list_append PySem.F.type_list_append mt_append (pe_ix ix_tup (pv 5) pe_int (fun _ _ => rfl)) (pa_cons pe_int pa_nil)))
      (pss_one (ps_ret (pe_cmpR op_eq (pe_callB (call_reprD hgd hr) (by rfl) mrepr (by decide +kernel) (pa_cons (pe_call OT hr (by rfl) gT kT bT .nil pass0 (pa_cons (pv 1) (pa_cons (pv 2) pa_nil))) pa_nil)) (pe_callB (call_reprD hgd hr) (by rfl) mrepr (by decide +kernel) (pa_cons (pe_tup (pa_cons (pv 1) (pa_cons (pv 4) (pa_cons (pe_lst pa_nil) pa_nil)))) pa_nil)) (nomark _)))))))))))), ?_⟩
    refine ⟨.ref a, rfl, a, refs ks, rfl, .inl (SqL.of hS), fun kp nkp => ?_⟩
    have s1 : Same H (upd H kp (.lst (refs ks))) := same_new nkp
    have hk1 : (upd H kp (.lst (refs ks))) kp = some (.lst (refs ks)) := upd_same
    generalize upd H kp (.lst (refs ks)) = H1 at s1 hk1 ⊢
    refine ⟨.ref a, rfl, a, ks, rfl, SqL.of (s1 _ _ hS), hT.same s1, fun p hp => (co p hp).sm, by omega, fun H2 D hs s s2' nD hD sub asc mem e2 => ⟨_, _, rfl, ?_⟩⟩
    have as : AscOf ks s := ⟨asc, mem⟩
    have s2 := s1.trans s2'
    have hk2 := s2' _ _ hk1
    have lD : hs.length = (hul s).length := by rw [← e2, List.length_map]
    have b2' := hb.same s2
    have shs : ∀ x ∈ hs.map (·.2), Sh x := fun x hx => by
      obtain ⟨r, hr, rfl⟩ := List.mem_map.mp hx
      exact (co r (sub r hr)).sh
    have bsh : b.natAbs < 10 ^ 31 := by
      have e : (10 : Nat) ^ 31 = 10000000000000000000000000000000 := by decide
      omega
    refine ⟨_, rfl, .ref a, rfl, b, a, ks, rfl, b1, b2, SqL.of (s2 _ _ hS), hT.same s2, co, l1, l2, fun H3 s' s3' as' lg => ?_, fun H3 t w e hs2 s' s3' fa sub2 as' e3 lg => ?_⟩
    · -- refused
      obtain rfl : s = s' := asc_same as as' fun _ => Iff.rfl
      have s3 := s2.trans s3'
      refine ⟨_, rfl, _, rfl, _, _, dp_pts (SqL.of (s3 _ _ hS)) (hT.same s3), dp_pts (SqL.of (s3' _ _ hk2)) (hT.same s3), shaped_pts _, shaped_pts _, _, rfl, ?_⟩
      rw [eqv_self (shaped_pts _)]
      refine iteF ?_
      have cmp : V.bl (!decide (V.bl (decide (V.non = V.non)) = V.bl (decide ((10 : Int) < ((refs hs).length : Int))))) = V.bl false := by
        rw [refs_len, decide_eq_true (show (10 : Int) < (hs.length : Int) by omega), decide_eq_true (rfl : V.non = V.non), decide_eq_true (rfl : V.bl true = V.bl true)]
        rfl
      refine ⟨_, rfl, rfl, .ref D, rfl, D, _, rfl, .inl (SqL.of (s3' _ _ hD)), _, _, rfl, rfl, rfl, false, cmp, iteF ?_⟩
      refine ⟨_, rfl, rfl, _, rfl, ?_⟩
      rw [decide_eq_true (rfl : V.non = V.non)]
      refine iteT ?_
      refine ⟨_, rfl, .ref a, rfl, a, refs ks, rfl, SqL.of (s3 _ _ hS), fun r nr => ?_⟩
      have s4 := s3.trans (same_new (o := .lst (refs ks).reverse) nr)
      have memr : ∀ q, q ∈ ks.reverse ↔ q ∈ ks := fun q => List.mem_reverse
      refine ⟨b, r, ks.reverse, rfl, b1, b2, SqL.of (by rw [upd_same]; simp [refs]), (hT.same s4).sub fun q hq => (memr q).mp hq, fun q hq => co q ((memr q).mp hq), by rw [List.length_reverse]; exact l1, by rw [List.length_reverse]; exact l2, fun H5 s5 t5 as5 lg5 => ⟨rfl, ?_⟩, fun H5 t5 w5 e5 hs5 s5 u5 fa5 sub5 as5 e55 lg5 => ?_⟩
      · rw [decide_eq_true (rfl : V.non = V.non)]
        exact q _ ⟨(s4.trans t5).x, (hb.same (s4.trans t5)).more (by omega)⟩
      · obtain rfl := asc_same as as5 memr
        omega
    · -- told
      obtain rfl : s = s' := asc_same as as' fun _ => Iff.rfl
      have s3 := s2.trans s3'
      have hD3 := s3' _ _ hD
      have eh : hs2.map (·.2) = hs.map (·.2) := e3.trans e2.symm
      have lh2 : hs2.length = (hul s).length := by rw [← e3, List.length_map]
      obtain ⟨d, hd⟩ : ∃ d : PyData, d = fenD b (hs.map (·.2)) := ⟨_, rfl⟩
      obtain ⟨w1, w2, w3, w4⟩ := fen_show bsh shs (by rw [List.length_map]; omega)
      rw [← hd] at w1 w2 w3 w4
      have w0H : H w = none := s2.free fa.nw
      have e0H : H e = none := s2.free fa.ne
      have aw : a ≠ w := ne_of_none hS w0H
      have ae : a ≠ e := ne_of_none hS e0H
      have Dw : D ≠ w := ne_of_none hD fa.nw
      have De : D ≠ e := ne_of_none hD fa.ne
      refine ⟨_, rfl, _, rfl, _, _, dp_pts (SqL.of (s3 _ _ hS)) (hT.same s3), dp_pts (SqL.of (s3' _ _ hk2)) (hT.same s3), shaped_pts _, shaped_pts _, _, rfl, ?_⟩
      rw [eqv_self (shaped_pts _)]
      refine iteF ?_
      have cmp : V.bl (!decide (V.bl (decide (V.ref t = V.non)) = V.bl (decide ((10 : Int) < ((refs hs).length : Int))))) = V.bl false := by
        rw [refs_len, decide_eq_false (show ¬ (10 : Int) < (hs.length : Int) by omega), decide_eq_false (show ¬ V.ref t = V.non from fun z => nomatch z), decide_eq_true (rfl : V.bl false = V.bl false)]
        rfl
      refine ⟨_, rfl, rfl, .ref D, rfl, D, _, rfl, .inl (SqL.of hD3), _, _, rfl, rfl, rfl, false, cmp, iteF ?_⟩
      refine ⟨_, rfl, rfl, _, rfl, ?_⟩
      rw [decide_eq_false (show ¬ V.ref t = V.non from fun z => nomatch z)]
      refine iteF ?_
      -- the text of what is told
      have T3 := hT.same s3
      have dpf : ∀ {H' : Hp} {H0 : Hp}, FenAt H0 H' b t w e hs2 → At K H' ks → Dp K H' (.ref t) d := fun f h => by
        rw [hd, ← eh]
        exact dp_fen f h sub2
      refine ⟨_, rfl, t, d, rfl, dpf fa T3, w1, w2, w3, w4, ?_⟩
      refine ⟨_, rfl, .ref D, rfl, by show 0 ≤ sizeLine; decide, fun x1 nx1 => ?_⟩
      refine ⟨by show 3 ≤ sizeLine; decide, fun x2 nx2 => ?_⟩
      have u4 := (same_new (o := .lst []) nx1).trans (same_new (o := .tup [.int b, .ref D, .ref x1]) nx2)
      have s4 := s3.trans u4
      refine ⟨x2, d, rfl, by rw [hd]; exact .tup (SqT.of upd_same) (.cons (.int b) (.cons (dp_pts (SqL.of (u4 _ _ hD3)) ((hT.same s4).sub sub)) (.cons (.lst (SqL.of ((same_new nx2) _ _ upd_same)) .nil) .nil))), w1, w2, w3, w4, rfl, _, rfl, ?_⟩
      rw [decide_eq_true (rfl : V.str d.shown = V.str d.shown)]
      refine iteF ?_
      have fa4 := fa.same u4
      have hD4 := u4 _ _ hD3
      generalize upd (upd H3 x1 (.lst [])) x2 (.tup [.int b, .ref D, .ref x1]) = H4 at u4 s4 fa4 hD4 ⊢
      refine ⟨.ref t, rfl, t, _, 1, .ref w, rfl, rfl, SqT.of fa4.ht, rfl, .ref a, rfl, w, a, hs2, ks, s, rfl, fa4.hw, SqL.of (s4 _ _ hS), hT.same s4, co, sub2, as, e3, l1, l2, by omega, fun H5 u5 => ⟨true, rfl, iteF ?_⟩⟩
      have s5 := s4.trans u5
      -- mixed
      refine ⟨_, rfl, _, rfl, .ref a, rfl, p, a, ks, n, rfl, hb.same s5, hn, SqL.of (s5 _ _ hS), hT.same s5, l1, l2, fun H6 g ls dr ng hg T6 pm m1 m2 => ?_⟩
      have fa5 := fa4.same u5
      have fa6 := fa5.drew b2' dr
      have dr6 : Drew p H H6 (n + 30) := ⟨s5.x.trans dr.x, dr.bag⟩
      refine ⟨b, g, ls, rfl, b1, b2, SqL.of hg, T6.sub fun q hq => (pm q).mp hq, fun q hq => co q ((pm q).mp hq), m1, m2, fun H7 s7 t7 as7 lg7 => ?_, fun H7 t7 w7 e7 hs7 s7 u7 fa7 sub7 as7 e77 lg7 => ?_⟩
      · exfalso
        obtain rfl := asc_same as as7 pm
        omega
      obtain rfl := asc_same as as7 pm
      have T7 := T6.same u7
      have eh7 : hs7.map (·.2) = hs.map (·.2) := e77.trans e2.symm
      refine ⟨t7, d, rfl, by rw [hd, ← eh7]; exact dp_fen fa7 T7 fun q hq => (pm q).mp (sub7 q hq), w1, w2, w3, w4, _, rfl, t, d, rfl, dpf (fa6.same u7) T7, w1, w2, w3, w4, rfl, _, rfl, ?_⟩
      rw [decide_eq_true (rfl : V.str d.shown = V.str d.shown)]
      refine iteF ?_
      have fa8 := fa6.same u7
      have dr8 := dr6.new u7
      have hD8 : H7 D = some (.lst (refs hs)) := u7 _ _ (dr.x _ _ (fun z => by
        obtain ⟨_, _, _, e0, _⟩ := hb.same s1
        rw [z] at nD
        rw [e0] at nD
        cases nD) (u5 _ _ hD4))
      have hS8 : H7 a = some (.lst (refs ks)) := dr8.x _ _ ap hS
      -- what is done to it
      have wp : w ≠ p := hb.ne w0H
      have ep : e ≠ p := hb.ne e0H
      have tw : t ≠ w := fun z => by
        have := fa8.ht
        rw [z, fa8.hw] at this
        cases this
      have te : t ≠ e := fun z => by
        have := fa8.ht
        rw [z, fa8.he] at this
        cases this
      refine ⟨.ref t, rfl, t, _, 1, .ref w, rfl, rfl, SqT.of fa8.ht, rfl, .inl ⟨rfl, _, SqL.of fa8.hw⟩, w, _, rfl, rfl, fa8.hw, ?_⟩
      have ht9 : (upd H7 w (.lst (refs hs2).reverse)) t = _ := (upd_ne tw).trans fa8.ht
      refine ⟨.ref t, rfl, t, _, 1, .ref w, rfl, rfl, SqT.of ht9, rfl, .inl ⟨rfl, _, SqL.of upd_same⟩, w, _, .non, rfl, rfl, upd_same, ?_, ?_⟩
      · rw [List.length_reverse, refs_len]
        exact Nat.lt_of_lt_of_le (show hs2.length < 11 by omega) (by decide)
      rw [upd_upd]
      have ht10 : (upd H7 w (.lst ((refs hs2).reverse ++ [.non]))) t = _ := (upd_ne tw).trans fa8.ht
      have he10 : (upd H7 w (.lst ((refs hs2).reverse ++ [.non]))) e = some (.lst []) := (upd_ne (Ne.symm fa8.ap)).trans fa8.he
      refine ⟨.ref t, rfl, t, _, 2, .ref e, rfl, rfl, SqT.of ht10, rfl, .inl ⟨rfl, _, SqL.of he10⟩, e, _, .int 0, rfl, rfl, he10, by show 0 < sizeLine; decide, ?_⟩
      have d10 : Drew p H (upd H7 w (.lst ((refs hs2).reverse ++ [.non]))) (n + 30) := dr8.put w0H wp
      have T10 : At K (upd H7 w (.lst ((refs hs2).reverse ++ [.non]))) ks := At.put T7 fa8.hw SameX.put
      have d11 : Drew p H (upd (upd H7 w (.lst ((refs hs2).reverse ++ [.non]))) e (.lst ([] ++ [.int 0]))) (n + 30) := d10.put e0H ep
      have T11 : At K (upd (upd H7 w (.lst ((refs hs2).reverse ++ [.non]))) e (.lst ([] ++ [.int 0]))) ks := At.put T10 he10 SameX.put
      have hS11 : (upd (upd H7 w (.lst ((refs hs2).reverse ++ [.non]))) e (.lst ([] ++ [.int 0]))) a = some (.lst (refs ks)) := ((upd_ne ae).trans (upd_ne aw)).trans hS8
      have hD11 : (upd (upd H7 w (.lst ((refs hs2).reverse ++ [.non]))) e (.lst ([] ++ [.int 0]))) D = some (.lst (refs hs)) := ((upd_ne De).trans (upd_ne Dw)).trans hD8
      generalize upd (upd H7 w (.lst ((refs hs2).reverse ++ [.non]))) e (.lst ([] ++ [.int 0])) = Hb at d11 T11 hS11 hD11 ⊢
      refine ⟨_, rfl, .ref a, rfl, b, a, ks, rfl, b1, b2, SqL.of hS11, T11, co, l1, l2, fun Hc sc tc asc' lgc => ?_, fun Hc t5 w5 e5 hs5 sc uc fac subc asc' ec lgc => ?_⟩
      · exfalso
        obtain rfl := asc_same as asc' fun _ => Iff.rfl
        omega
      obtain rfl := asc_same as asc' fun _ => Iff.rfl
      have Tc := T11.same uc
      have ehc : hs5.map (·.2) = hs.map (·.2) := ec.trans e2.symm
      refine ⟨t5, d, rfl, by rw [hd, ← ehc]; exact dp_fen fac Tc subc, w1, w2, w3, w4, ?_⟩
      refine ⟨_, rfl, .ref D, rfl, by show 0 ≤ sizeLine; decide, fun y1 ny1 => ?_⟩
      refine ⟨by show 3 ≤ sizeLine; decide, fun y2 ny2 => ?_⟩
      have ud := (same_new (o := .lst []) ny1).trans (same_new (o := .tup [.int b, .ref D, .ref y1]) ny2)
      refine ⟨y2, d, rfl, by rw [hd]; exact .tup (SqT.of upd_same) (.cons (.int b) (.cons (dp_pts (SqL.of (ud _ _ (uc _ _ hD11))) ((Tc.same ud).sub sub)) (.cons (.lst (SqL.of ((same_new ny2) _ _ upd_same)) .nil) .nil))), w1, w2, w3, w4, rfl, ?_⟩
      rw [decide_eq_true (rfl : V.str d.shown = V.str d.shown)]
      exact q _ ((d11.new uc).new ud)
end
end K2

set_option maxRecDepth 100000
set_option maxHeartbeats 1000000
set_option exponentiation.threshold 20000
namespace Fen
open PySem PySem.Spec PyProof.Rows L2
/-! written points, lists of them, fences -/
def tPtA (K : PySem.W.Frag) (ps : List Hull.P) : TA := fun σ H Q => ∀ H' ks, Same H H' → At K H' ks → ks.map (·.2) = ps → Q (refs ks) H'
def tPtL (K : PySem.W.Frag) (ps : List Hull.P) : TE := fun σ H Q => ∀ H' f ks, Same H H' → H f = none → H' f = some (.lst (refs ks)) → At K H' ks → ks.map (·.2) = ps → Q (.ref f) H'
theorem PA.of {X : Cx} {es : List Expr} {t : TA} (t' : TA) (h : PA X es t) (hi : ∀ σ H Q, t' σ H Q → t σ H Q) : PA X es t' := ⟨fun pos pins s σ H Q I q => h.run pos pins s σ H Q I (hi σ H Q q)⟩
section
variable {X : Cx} {K : PySem.W.Frag}
theorem pa_ptnil : PA X [] (tPtA K []) := PA.of _ pa_nil fun σ H Q h => h H [] (Same.refl _) (fun p hp => nomatch hp) rfl
theorem pa_pt {e1 e2 : Expr} {es : List Expr} {i j : Int} {ps : List Hull.P} {kk : Nat} {pos : Pos} (h1 : PE X e1 (tC (.int i))) (h2 : PE X e2 (tC (.int j))) (hr : PA X es (tPtA K ps)) (hK : X.K = K := by rfl)
    (n1 : starEach (e1 :: [e2]) X.env = (false, eval e1 X.env) :: starEach [e2] X.env := by rfl) (n2 : starEach (e2 :: []) X.env = (false, eval e2 X.env) :: starEach [] X.env := by rfl)
    (hs : starEach (.Tuple [e1, e2] kk pos :: es) X.env = (false, eval (.Tuple [e1, e2] kk pos) X.env) :: starEach es X.env := by rfl) : PA X (.Tuple [e1, e2] kk pos :: es) (tPtA K ((i, j) :: ps)) := by
  subst hK
  refine PA.of _ (pa_cons (pe_tup (pa_cons h1 (pa_cons h2 pa_nil n2) n1)) hr hs) fun σ H Q h => ?_
  refine ⟨by show 2 ≤ sizeLine; decide, fun t nt => fun H' ks s T e => ?_⟩
  refine h H' ((t, (i, j)) :: ks) ((same_new nt).trans s) (fun p hp => ?_) (by rw [List.map_cons, e])
  rcases List.mem_cons.mp hp with rfl | z
  · exact SqT.of (s _ _ upd_same)
  · exact T p z
theorem pe_ptl {es : List Expr} {ps : List Hull.P} {pos : Pos} (h : PA X es (tPtA K ps)) (hl : ps.length ≤ 4000) : PE X (.List es pos) (tPtL K ps) := by
  refine PE.of _ (pe_lst h) fun σ H Q q => fun H' ks s T e => ⟨?_, fun f nf => ?_⟩
  · have := congrArg List.length e
    rw [List.length_map] at this
    rw [refs_len]
    exact sz20 (by omega)
  · exact q _ f ks (s.trans (same_new nf)) (s.free nf) upd_same (T.same (same_new nf)) e
end
end Fen
namespace K2
open PySem PySem.Spec PyProof.Rows L2 Fen
def tFenE (K : PySem.W.Frag) (b : Int) (ps : List Hull.P) : TE := fun σ H Q => ∀ H' t w e ks, Same H H' → FenAt H H' b t w e ks → At K H' ks → ks.map (·.2) = ps → Q (.ref t) H'
section
variable {X : Cx} {K : PySem.W.Frag}
theorem pe_fenE {e1 e2 : Expr} {b : Int} {ps : List Hull.P} {kk : Nat} {pos lp : Pos} (h1 : PE X e1 (tC (.int b))) (h2 : PE X e2 (tPtL K ps))
    (n1 : starEach [e1, e2, .List [] lp] X.env = (false, eval e1 X.env) :: starEach [e2, .List [] lp] X.env := by rfl) (n2 : starEach [e2, .List [] lp] X.env = (false, eval e2 X.env) :: starEach [.List [] lp] X.env := by rfl)
    (n3 : starEach [.List [] lp] X.env = (false, eval (.List [] lp) X.env) :: starEach [] X.env := by rfl) : PE X (.Tuple [e1, e2, .List [] lp] kk pos) (tFenE K b ps) := by
  refine PE.of _ (pe_tup (pa_cons h1 (pa_cons h2 (pa_cons (pe_lst pa_nil) pa_nil n3) n2) n1)) fun σ H Q h => ?_
  refine fun H1 f ks s1 nf hf T e => ⟨by show 0 ≤ sizeLine; decide, fun x nx => ⟨by show 3 ≤ sizeLine; decide, fun t nt => ?_⟩⟩
  have s2 := (same_new (o := .lst []) nx).trans (same_new (o := .tup [.int b, .ref f, .ref x]) nt)
  exact h _ t f x ks (s1.trans s2) ⟨(s1.trans (same_new nx)).free nt, nf, s1.free nx, upd_same, s2 _ _ hf, (same_new nt) _ _ upd_same, ne_of_none hf nx⟩ (T.same s2) e
end
abbrev sLw : Stmt := topS 34
abbrev nLw : List Str := ["_law_script", "_law_cell", "_law_bag_here", "_law_turn_here", "_law_bottom", "_law_many", "_law_curve", "_law_first", "_law_square", "_law_told_here", "_law_due", "_law_place"]
theorem scLw : FnScope nLw ["_law_script"] (defScope sLw) := ⟨rfl, rfl, rfl, by decide +kernel, rfl, by decide +kernel, by decide +kernel⟩
theorem curve_co (j : Nat) (h : j < 20) : Co (-6 + (j : Int), (-6 + (j : Int)) * (-6 + (j : Int)) - (-6 + (j : Int))) := by
  have z : ∀ j : Fin 20, -(10 : Int) ^ 30 ≤ -6 + ((j : Nat) : Int) ∧ -6 + ((j : Nat) : Int) ≤ 10 ^ 30 ∧ -(10 : Int) ^ 30 ≤ (-6 + ((j : Nat) : Int)) * (-6 + ((j : Nat) : Int)) - (-6 + ((j : Nat) : Int)) ∧ (-6 + ((j : Nat) : Int)) * (-6 + ((j : Nat) : Int)) - (-6 + ((j : Nat) : Int)) ≤ 10 ^ 30 := by decide +kernel
  exact z ⟨j, h⟩
/-- a fence with these corners -/
def TF (K : PySem.W.Frag) (H : Hp) (b : Int) (ps : List Hull.P) (t : Addr) : Prop := ∃ H0 w e hs, FenAt H0 H b t w e hs ∧ At K H hs ∧ hs.map (·.2) = ps
theorem TF.same {K : PySem.W.Frag} {H H' : Hp} {b : Int} {ps : List Hull.P} {t : Addr} (h : TF K H b ps t) (s : Same H H') : TF K H' b ps t := by
  obtain ⟨H0, w, e, hs, f, T, r⟩ := h
  exact ⟨H0, w, e, hs, f.same s, T.same s, r⟩
theorem TF.dp {K : PySem.W.Frag} {H : Hp} {b : Int} {ps : List Hull.P} {t : Addr} (h : TF K H b ps t) : Dp K H (.ref t) (fenD b ps) := by
  obtain ⟨H0, w, e, hs, f, T, rfl⟩ := h
  exact dp_fen f T fun p hp => hp
theorem dp_ints2 {K : PySem.W.Frag} {H : Hp} : ∀ ns : List Int, DpAll K H (ns.map V.int) (ns.map PyData.int)
  | [] => .nil
  | n :: r => .cons (.int n) (dp_ints2 r)
theorem shaped_ints (ns : List Int) : SeqAt.shaped (.list (ns.map PyData.int)) = true := by
  have h : ∀ l : List Int, PyData.canLayAll0 (l.map PyData.int) = true ∧ PyData.depthAll (l.map PyData.int) ≤ 1 := by
    intro l
    induction l with
    | nil => exact ⟨rfl, by decide⟩
    | cons b r ih => exact ⟨by simp [PyData.canLayAll0, PyData.canLay0, ih.1], by simp only [List.map_cons, PyData.depthAll, PyData.depth]; omega⟩
  unfold SeqAt.shaped
  simp only [PyData.canLay0, PyData.depth, (h ns).1, Bool.true_and]
  exact decide_eq_true (by have := (h ns).2; omega)
theorem co_of {ks : Pts} {ps : List Hull.P} (e : ks.map (·.2) = ps) (h : (ps.all fun x => decide (x.1.natAbs ≤ 1000) && decide (x.2.natAbs ≤ 1000)) = true) : ∀ p ∈ ks, Co p.2 := fun p hp => by
  have m : p.2 ∈ ps := by
    rw [← e]
    exact List.mem_map.mpr ⟨p, hp, rfl⟩
  have z := List.all_eq_true.mp h p.2 m
  rw [Bool.and_eq_true, decide_eq_true_iff, decide_eq_true_iff] at z
  have e : (10 : Int) ^ 30 = 1000000000000000000000000000000 := by decide
  unfold Co
  rw [e]
  omega
theorem asc_is {ks : Pts} {s s0 ps : List Hull.P} (h : AscOf ks s) (e : ks.map (·.2) = ps) (h0 : s0.Pairwise Hull.Lt) (hm : ∀ x, x ∈ s0 ↔ x ∈ ps) : s = s0 := asc_uniq h.1 h0 fun x => by rw [h.2, e, hm]
theorem mem1 : ∀ x : Hull.P, x ∈ [((0 : Int), (0 : Int)), (0, 2), (1, 0), (1, 1), (2, 0), (2, 2)] ↔ x ∈ [((0 : Int), (0 : Int)), (2, 2), (1, 1), (2, 0), (0, 2), (1, 0)] := fun x => by
  simp only [List.mem_cons, List.not_mem_nil, or_false]
  constructor <;> (intro h; rcases h with rfl | rfl | rfl | rfl | rfl | rfl <;> simp)
theorem mem2 : ∀ x : Hull.P, x ∈ [((0 : Int), (0 : Int)), (1, 0), (2, 0)] ↔ x ∈ [((2 : Int), (0 : Int)), (0, 0), (1, 0)] := fun x => by
  simp only [List.mem_cons, List.not_mem_nil, or_false]
  constructor <;> (intro h; rcases h with rfl | rfl | rfl <;> simp)
theorem mem3 : ∀ x : Hull.P, x ∈ [((1 : Int), (1 : Int))] ↔ x ∈ [((1 : Int), (1 : Int)), (1, 1)] := fun x => by simp
theorem hul1 : hul [((0 : Int), (0 : Int)), (0, 2), (1, 0), (1, 1), (2, 0), (2, 2)] = [(0, 0), (2, 0), (2, 2), (0, 2)] := by decide +kernel
theorem hul2 : hul [((0 : Int), (0 : Int)), (1, 0), (2, 0)] = [(0, 0), (2, 0)] := by decide +kernel
theorem hul3 : hul [((1 : Int), (1 : Int))] = [(1, 1)] := by decide +kernel
theorem cut_mid (xs : List V) (n m : Nat) : cutV xs (some (n : Int)) (some (m : Int)) = (xs.drop (min n xs.length)).take (min m xs.length - min n xs.length) := by
  unfold cutV
  rw [show HT.sIx xs.length 0 (some (n : Int)) = min n xs.length from HT.sIx_nat xs.length 0 n, show HT.sIx xs.length xs.length (some (m : Int)) = min m xs.length from HT.sIx_nat xs.length xs.length m]
section
variable {P : Program} {w : World} {K : PySem.W.Frag} {mg : Str → Option Value} {base : Heap}
def spLw (K : PySem.W.Frag) : Sp := fun vs H Q _ => ∃ (a : Addr) (ns : List Int), vs = [.ref a] ∧ SqL K H a (ns.map V.int) ∧ ns.length ≤ 63 ∧ ∀ H', Q (.bl true) H'
theorem ok_lw {f fB fP fS fR fT : Addr} {fd fdB fdP fdS fdR fdT : FuncData} {k : Nat} (F : Fun K "law" "law" sLw f fd) (T : Nms mg) (T2 : Nm2 mg) (mr : mg "range" = none)
    (OB : FnOk P w K mg base CX0 (k + 1) fB fdB ["_law_cell"] spBag) (kB : PySem.W.keepIn K (.ref fB) = true) (bB : Binds K fdB ["_law_cell"] []) (gB : mg "_law_bag" = some (.ref fB))
    (OP : FnOk P w K mg base CX0 (k + 1) fP fdP ["_law_bag_here", "_law_many"] spPick) (kP : PySem.W.keepIn K (.ref fP) = true) (bP : Binds K fdP ["_law_bag_here", "_law_many"] []) (gP : mg "_law_pick" = some (.ref fP))
    (OS : FnOk P w K mg base CX0 (k + 1) fS fdS ["_law_bag_here", "_law_many", "_law_wide"] (spPts K)) (kS : PySem.W.keepIn K (.ref fS) = true) (bS : Binds K fdS ["_law_bag_here", "_law_many", "_law_wide"] []) (gS : mg "_law_points" = some (.ref fS))
    (OT : FnOk P w K mg base CX0 (k + 1) fT fdT ["_law_bottom", "_law_points_here"] (spTold K)) (kT : PySem.W.keepIn K (.ref fT) = true) (bT : Binds K fdT ["_law_bottom", "_law_points_here"] []) (gT : mg "_law_told" = some (.ref fT))
    (OR : FnG P w K mg base CX0 (k + 1) fR fdR ["_law_bag_here", "_law_bottom", "_law_points_here"] (spRt K)) (kR : PySem.W.keepIn K (.ref fR) = true) (bR : Binds K fdR ["_law_bag_here", "_law_bottom", "_law_points_here"] []) (gR : mg "_law_right" = some (.ref fR)) :
    FnG P w K mg base CX0 (k + 1 + 1) f fd ["_law_script"] (spLw K) := by
  refine F.okG scLw (fun vs H Q E h => ?_) (fun cdv A outer s H vs Q E hgd hr h => ?_)
  · obtain ⟨a, ns, rfl, _⟩ := h
    rfl
  · obtain ⟨a, ns, rfl, hS, hl, q⟩ := h
    refine ⟨_, pss_cons (ps_for PassesOwn.never rfl (pi_list (pe_op op_cat (pe_slice sl_list (pv 0) po_none (po_some pe_int)) (pe_op op_rep (pe_lst (pa_cons pe_int pa_nil)) (pe_callTy call_int1 (by rfl) T.mint (by decide +kernel) (pa_cons (pe_cmpR (op_eqD (hu_of64 hr)) (pv 0) (pe_lst pa_nil) (nomark _)) pa_nil))))) (pg_name (i := 1) scLw.nd rfl (.inl rfl))
        (pss_cons (ps_set (i := 2) scLw.nd rfl (.inl rfl) (pe_call OB hr (by rfl) gB kB bB .nil pass0 (pa_cons (pv 1) pa_nil)))
        (pss_cons (ps_for PassesOwn.never rfl (pi_range1 rfl mr (pa_cons pe_int pa_nil)) (pg_name (i := 3) scLw.nd rfl (.inl rfl))
          (pss_cons (ps_par (i := 4) (j := 5) rfl scLw.nd rfl rfl (by decide) rfl rfl (pa_cons (pe_op op_add pe_int (pe_call OP hr (by rfl) gP kP bP .nil pass0 (pa_cons (pv 2) (pa_cons pe_int pa_nil))))
              (pa_cons (pe_op op_add pe_int (pe_call OP hr (by rfl) gP kP bP .nil pass0 (pa_cons (pv 2) (pa_cons (pe_ix ix_list (pe_lst (pa_cons pe_int (pa_cons pe_int pa_nil))) (pe_call OP hr (by rfl) gP kP bP .nil pass0 (pa_cons (pv 2) (pa_cons pe_int pa_nil))) (fun _ _ => rfl)) pa_nil)))) pa_nil)) (by rfl))
          (pss_one (ps_if (pt_not (pt_val (pe_callG OR hgd hr (by rfl) gR kR bR .nil pass0 (pa_cons (pv 2) (pa_cons (pv 4) (pa_cons (pe_call OS hr (by rfl) gS kS bS .nil pass0 (pa_cons (pv 2) (pa_cons (pv 5) (pa_cons (pe_ix ix_list (pe_lst (pa_cons pe_int (pa_cons pe_int (pa_cons pe_int (pa_cons (pe_op op_pow pe_int pe_int) pa_nil))))) (pe_call OP hr (by rfl) gP kP bP .nil pass0 (pa_cons (pv 2) (pa_cons pe_int pa_nil))) (fun _ _ => rfl)) pa_nil)))) pa_nil)))))) (pss_one (ps_ret pe_bl)) pss_nil))))
        (pss_cons (ps_setLc (i := 6) (own := [("_law_place", 11)]) (g := gName 11) (tt := tYes) rfl scLw.nd rfl rfl (sw_true rfl rfl rfl (by decide +kernel)) (pi_range2 rfl mr (pa_cons (pe_un un_neg pe_int) (pa_cons pe_int pa_nil))) (blkOk_by (N := nLw) (sc := defScope sLw) (by decide +kernel)) (fun _ _ _ _ _ => pg_name (i := 11) scLw.nd rfl (Or.inl rfl)) (fun _ _ _ _ _ => pts_nil)
            (fun _ _ _ _ _ => pe_tup (pa_cons (pv 11) (pa_cons (pe_op op_sub (pe_op op_mul (pv 11) (pv 11)) (pv 11)) pa_nil))))
        (pss_cons (ps_set (i := 7) scLw.nd rfl (.inl rfl) (pe_call OP hr (by rfl) gP kP bP .nil pass0 (pa_cons (pv 2) (pa_cons pe_int pa_nil))))
        (pss_one (ps_if (pt_not (pt_val (pe_callG OR hgd hr (by rfl) gR kR bR .nil pass0 (pa_cons (pv 2) (pa_cons pe_int (pa_cons (pe_slice sl_list (pv 6) (po_some (pv 7)) (po_some (pe_op op_add (pe_op op_add (pv 7) pe_int) (pe_call OP hr (by rfl) gP kP bP .nil pass0 (pa_cons (pv 2) (pa_cons pe_int pa_nil)))))) pa_nil)))))) (pss_one (ps_ret pe_bl)) pss_nil)))))))
      (pss_cons (ps_set (i := 8) scLw.nd rfl (.inl rfl) (pe_ptl (K := K) (pa_pt pe_int pe_int (pa_pt pe_int pe_int (pa_pt pe_int pe_int (pa_pt pe_int pe_int (pa_pt pe_int pe_int (pa_pt pe_int pe_int pa_ptnil)))))) (by decide)))
      (pss_cons (ps_set (i := 9) scLw.nd rfl (.inl rfl) (pe_lst (pa_cons (pe_call OT hr (by rfl) gT kT bT .nil pass0 (pa_cons pe_int (pa_cons (pv 8) pa_nil)))
          (pa_cons (pe_call OT hr (by rfl) gT kT bT .nil pass0 (pa_cons pe_int (pa_cons (pe_ptl (K := K) (pa_pt pe_int pe_int (pa_pt pe_int pe_int (pa_pt pe_int pe_int pa_ptnil))) (by decide)) pa_nil)))
          (pa_cons (pe_call OT hr (by rfl) gT kT bT .nil pass0 (pa_cons pe_int (pa_cons (pe_ptl (K := K) (pa_pt pe_int pe_int (pa_pt pe_int pe_int pa_ptnil)) (by decide)) pa_nil))) pa_nil)))))
      (pss_cons (ps_set (i := 10) scLw.nd rfl (.inl rfl) (pe_lst (pa_cons (pe_fenE (K := K) pe_int (pe_ptl (pa_pt pe_int pe_int (pa_pt pe_int pe_int (pa_pt pe_int pe_int (pa_pt pe_int pe_int pa_ptnil)))) (by decide)))
          (pa_cons (pe_fenE (K := K) pe_int (pe_ptl (pa_pt pe_int pe_int (pa_pt pe_int pe_int pa_ptnil)) (by decide)))
          (pa_cons (pe_fenE (K := K) pe_int (pe_ptl (pa_pt pe_int pe_int pa_ptnil) (by decide))) pa_nil)))))
      (pss_one (ps_ret (pe_cmpR (op_eqD (hu_of64 hr)) (pv 9) (pv 10) (nomark _))))))), ?_⟩
    refine ⟨.ref a, rfl, 6, rfl, a, _, rfl, hS, fun c1 nc1 => ?_⟩
    rw [show (6 : Int) = ((6 : Nat) : Int) from rfl, cut_to]
    have s1 : Same H (upd H c1 (.lst ((ns.map V.int).take 6))) := same_new nc1
    refine ⟨by show 1 ≤ sizeLine; decide, fun l1 nl1 => ?_⟩
    have s2 := s1.trans (same_new (o := .lst [.int 0]) nl1)
    refine ⟨.ref a, rfl, by show 0 ≤ sizeLine; decide, fun l2 nl2 => ?_⟩
    have s3 := s2.trans (same_new (o := .lst []) nl2)
    refine ⟨_, .list [], .lst (s3.seq hS) (dp_ints2 ns), .lst (SqL.of upd_same) .nil, shaped_ints ns, shaped_pts [], .inr ⟨_, rfl, ?_⟩⟩
    generalize PyData.eqv (.list (ns.map PyData.int)) (.list []) = bb
    refine ⟨l1, (if bb = true then 1 else 0), [.int 0], rfl, rfl, (same_new nl2) _ _ upd_same, ?_, ?_, ?_, fun l3 nl3 => ?_⟩
    · split <;> decide
    · split <;> decide
    · split <;> decide
    have s4 := s3.trans (same_new (o := .lst (List.replicate (if bb = true then (1 : Int) else 0).toNat [V.int 0]).flatten) nl3)
    have lc : (List.replicate (if bb = true then (1 : Int) else 0).toNat [V.int 0]).flatten.length ≤ 1 := by cases bb <;> simp
    have ic : ∀ v ∈ (List.replicate (if bb = true then (1 : Int) else 0).toNat [V.int 0]).flatten, ∃ i, v = V.int i := by
      cases bb
      · intro v hv
        simp at hv
      · intro v hv
        simp at hv
        exact ⟨0, hv⟩
    generalize (List.replicate (if bb = true then (1 : Int) else 0).toNat [V.int 0]).flatten = zs at s4 lc ic ⊢
    refine ⟨c1, l3, _, zs, rfl, rfl, (((same_new nl1).trans (same_new nl2)).trans (same_new nl3)) _ _ upd_same, upd_same, ?_, fun c0 nc0 => ?_⟩
    · rw [List.length_take]
      exact sz20 (by omega)
    have intC : ∀ v ∈ (ns.map V.int).take 6 ++ zs, ∃ i, v = V.int i := fun v hv => by
      rcases List.mem_append.mp hv with z | z
      · obtain ⟨i, _, e⟩ := List.mem_map.mp (List.mem_of_mem_take z)
        exact ⟨i, e.symm⟩
      · exact ic v z
    have hc0 : (upd (upd (upd (upd (upd H c1 (.lst ((ns.map V.int).take 6))) l1 (.lst [.int 0])) l2 (.lst [])) l3 (.lst zs)) c0 (.lst ((ns.map V.int).take 6 ++ zs))) c0 = some (.lst ((ns.map V.int).take 6 ++ zs)) := upd_same
    generalize (ns.map V.int).take 6 ++ zs = C at hc0 intC ⊢
    generalize upd (upd (upd (upd (upd H c1 (.lst ((ns.map V.int).take 6))) l1 (.lst [.int 0])) l2 (.lst [])) l3 (.lst zs)) c0 (.lst C) = H1 at hc0 ⊢
    refine ⟨c0, rfl, ⟨_, SqL.of hc0⟩, ?_⟩
    refine for_list (K := K) (a := c0) (xs := C) (fun i σ H' => ∃ y1 y2 y3 y4 y5 y6 y7 y8 y9 y10 y11, σ = [some (.ref a), y1, y2, y3, y4, y5, y6, y7, y8, y9, y10, y11] ∧ Same H1 H') ⟨_, _, _, _, _, _, _, _, _, _, _, rfl, Same.refl _⟩ ?_ ?_ ?_
    · rintro i σ H' _ ⟨_, _, _, _, _, _, _, _, _, _, _, _, z⟩
      exact SqL.of (z _ _ hc0)
    · rintro i v σ H2 hv ⟨y1, y2, y3, y4, y5, y6, y7, y8, y9, y10, y11, rfl, sO⟩
      obtain ⟨cell, rfl⟩ := intC v (List.mem_of_getElem? hv)
      refine ⟨_, rfl, cell, rfl, fun H3 p s3 np hb => ?_⟩
      refine ⟨3, rfl, by decide, by decide, ?_⟩
      refine for_range (lo := 0) (fun j σ H' => ∃ y3 y4 y5 y6 y7 y8 y9 y10 y11, σ = [some (.ref a), some (.int cell), some (.ref p), y3, y4, y5, y6, y7, y8, y9, y10, y11] ∧ Drew p H3 H' (100 * j)) ⟨_, _, _, _, _, _, _, _, _, rfl, Drew.of hb (Same.refl _)⟩ ?_ ?_
      · rintro j σ H4 hj ⟨y3, y4, y5, y6, y7, y8, y9, y10, y11, rfl, d4⟩
        have hj3 : j < 3 := hj
        refine ⟨_, rfl, p, 30, _, rfl, by decide, by decide, d4.bag, by omega, fun r1 H5 a0 a1 d5 _ => ⟨_, _, rfl, rfl, ?_⟩⟩
        refine ⟨_, rfl, by show 2 ≤ sizeLine; decide, fun l5 nl5 => ?_⟩
        have d6 := d5.new (same_new (o := .lst [.int 5, .int 20]) nl5)
        have l5p := d5.list_ne nl5
        refine ⟨_, rfl, p, 2, _, rfl, by decide, by decide, d6.bag, by omega, fun r2 H7 b0 b1 d7 o7 => ?_⟩
        obtain ⟨v, hv, v1, v2⟩ : ∃ v : Int, atI [V.int 5, V.int 20] r2 = some (.int v) ∧ 1 ≤ v ∧ v ≤ 20 := by
          rcases (show r2 = 0 ∨ r2 = 1 by omega) with rfl | rfl
          · exact ⟨5, rfl, by decide, by decide⟩
          · exact ⟨20, rfl, by decide, by decide⟩
        refine ⟨l5, _, r2, .int v, rfl, rfl, SqL.of (by rw [o7 l5 l5p, upd_same]), hv, p, v, _, rfl, by omega, Int.lt_of_le_of_lt v2 (by decide), d7.bag, by omega, fun r3 H8 c0 c1 d8 _ => ⟨_, _, rfl, rfl, _, _, rfl, ?_⟩⟩
        obtain ⟨m, hm⟩ : ∃ m : Nat, 1 + r3 = (m : Int) := ⟨(1 + r3).toNat, by omega⟩
        refine ⟨_, rfl, _, rfl, _, rfl, _, rfl, 10, 29, rfl, rfl, ⟨by decide, by decide, by decide⟩, by show 4 ≤ sizeLine; decide, fun l9 nl9 => ?_⟩
        have d9 := d8.new (same_new (o := .lst [.int 3, .int 9, .int 40, .int ((10 : Int) ^ (29 : Int).toNat)]) nl9)
        have l9p := d8.list_ne nl9
        refine ⟨_, rfl, p, 4, _, rfl, by decide, by decide, d9.bag, by omega, fun r4 HA e0 e1 dA oA => ?_⟩
        obtain ⟨wd, hw, w1, w2⟩ : ∃ wd : Int, atI [V.int 3, V.int 9, V.int 40, V.int ((10 : Int) ^ (29 : Int).toNat)] r4 = some (.int wd) ∧ 0 < wd ∧ wd ≤ N29 := by
          rcases (show r4 = 0 ∨ r4 = 1 ∨ r4 = 2 ∨ r4 = 3 by omega) with rfl | rfl | rfl | rfl
          · exact ⟨3, rfl, by decide, by decide⟩
          · exact ⟨9, rfl, by decide, by decide⟩
          · exact ⟨40, rfl, by decide, by decide⟩
          · exact ⟨(10 : Int) ^ (29 : Int).toNat, rfl, by rw [n29]; decide, by rw [n29]; exact Int.le_refl _⟩
        refine ⟨l9, _, r4, .int wd, rfl, rfl, SqL.of (by rw [oA l9 l9p, upd_same]), hw, p, m, wd, _, (by rw [← hm] <;> rfl), dA.bag, by omega, by omega, by omega, w1, w2, fun HB f ks dB nf fp hf TB co lk => ?_⟩
        refine ⟨p, f, 1 + r1, ks, _, rfl, dB.bag, by omega, by omega, by omega, hf, fp, TB, co, by omega, by omega, fun HC dC => ⟨true, rfl, iteF ?_⟩⟩
        have dd := d4.then (d6.then (d7.then (d9.then (dA.then (dB.then dC)))))
        exact ⟨_, _, _, _, _, _, _, _, _, rfl, ⟨dd.x, dd.bag.more (by omega)⟩⟩
      · rintro σ H4 ⟨y3, y4, y5, y6, y7, y8, y9, y10, y11, rfl, d4⟩
        have d4' : Drew p H3 H4 300 := d4
        clear d4
        refine ⟨6, rfl, -6, 14, rfl, ⟨by decide, by decide, by decide, by decide⟩, fun D nD => ?_⟩
        have Dp' : D ≠ p := d4'.list_ne nD
        refine lc_range (lo := -6) (n := ((14 : Int) - -6).toNat) (fun j H' => ∃ ks : Pts, Same H4 H' ∧ H' D = some (.lst (refs ks)) ∧ At K H' ks ∧ (∀ q ∈ ks, Co q.2) ∧ ks.length = j) ⟨[], same_new nD, upd_same, fun q hq => (nomatch hq), fun q hq => (nomatch hq), rfl⟩ ?_ ?_
        · rintro j H5 hj ⟨ks, s5, hD, T5, co, lk⟩
          have hj2 : j < 20 := hj
          refine ⟨rfl, yesT ?_⟩
          refine ⟨_, rfl, _, rfl, _, rfl, _, _, rfl, rfl, .inl ⟨by omega, by omega⟩, _, rfl, _, _, rfl, rfl, by show 2 ≤ sizeLine; decide, fun t nt => ?_⟩
          have hD6 := (same_new (o := .tup [.int (-6 + (j : Int)), .int ((-6 + (j : Int)) * (-6 + (j : Int)) - (-6 + (j : Int)))]) nt) _ _ hD
          have T6 := T5.same (same_new (o := .tup [.int (-6 + (j : Int)), .int ((-6 + (j : Int)) * (-6 + (j : Int)) - (-6 + (j : Int)))]) nt)
          have tD : t ≠ D := fun z => by
            rw [z, hD] at nt
            cases nt
          refine ⟨refs ks, hD6, by rw [refs_len]; exact Nat.lt_of_lt_of_le (show ks.length < 21 by omega) (by decide), ks ++ [(t, (-6 + (j : Int), (-6 + (j : Int)) * (-6 + (j : Int)) - (-6 + (j : Int))))], fun b o e => ?_, ?_, fun r hr => ?_, fun r hr => ?_, ?_⟩
          · have nb : b ≠ D := fun z => by
              rw [z, nD] at e
              cases e
            rw [upd_ne nb]
            exact (s5.trans (same_new nt)) b o e
          · rw [upd_same]
            simp [refs]
          · rcases List.mem_append.mp hr with z | z
            · exact L2.SqT.put (T6 r z) hD6 SameX.put
            · rw [List.mem_singleton.mp z]
              refine SqT.of ?_
              rw [upd_ne tD]
              exact upd_same
          · rcases List.mem_append.mp hr with z | z
            · exact co r z
            · rw [List.mem_singleton.mp z]
              exact curve_co j hj2
          · rw [List.length_append, List.length_singleton, lk]
        · rintro H5 ⟨ks, s5, hD, T5, co, lk⟩
          have lk2 : ks.length = 20 := lk
          have d5 := d4'.new s5
          refine ⟨_, rfl, p, 11, _, rfl, by decide, by decide, d5.bag, by omega, fun r1 H6 a0 a1 d6 o6 => ?_⟩
          obtain ⟨j1, rfl⟩ : ∃ j : Nat, r1 = (j : Int) := ⟨r1.toNat, by omega⟩
          have hD6 : H6 D = some (.lst (refs ks)) := by rw [o6 D Dp']; exact hD
          have T6 := At.drew T5 d5.bag d6
          refine ⟨_, rfl, .ref D, rfl, _, rfl, (j1 : Int), rfl, _, rfl, _, _, rfl, rfl, _, rfl, p, 12, _, rfl, by decide, by decide, d6.bag, by omega, fun r2 H7 b0 b1 d7 o7 => ?_⟩
          obtain ⟨j2, rfl⟩ : ∃ j : Nat, r2 = (j : Int) := ⟨r2.toNat, by omega⟩
          have hD7 : H7 D = some (.lst (refs ks)) := by rw [o7 D Dp']; exact hD6
          have T7 := At.drew T6 d6.bag d7
          refine ⟨_, _, rfl, rfl, ((j1 + 9 + j2 : Nat) : Int), (by push_cast; rfl), D, _, rfl, SqL.of hD7, fun f nf => ?_⟩
          rw [cut_mid, refs_len, lk2, refs_drop_n, refs_take_n]
          have m1 : min j1 20 = j1 := by omega
          rw [m1]
          have lz : ((ks.drop j1).take (min (j1 + 9 + j2) 20 - j1)).length = min (j1 + 9 + j2) 20 - j1 := by
            rw [List.length_take, List.length_drop]
            omega
          have sz : ∀ r ∈ (ks.drop j1).take (min (j1 + 9 + j2) 20 - j1), r ∈ ks := fun r hr => List.mem_of_mem_drop (List.mem_of_mem_take hr)
          generalize (ks.drop j1).take (min (j1 + 9 + j2) 20 - j1) = zs at lz sz ⊢
          have d8 := d7.new (same_new (o := .lst (refs zs)) nf)
          refine ⟨p, f, 1, zs, _, rfl, d8.bag, by omega, by decide, by decide, upd_same, d7.list_ne nf, (T7.sub sz).same (same_new nf), fun r hr => co r (sz r hr), by omega, by omega, fun H9 d9 => ⟨true, rfl, iteF ?_⟩⟩
          have dd := d5.then (d6.then (d8.then d9))
          exact ⟨_, _, _, _, _, _, _, _, _, _, _, rfl, fun b o e => (s3.x.trans dd.x).same np b o (sO b o e)⟩
    · rintro σ H2 ⟨y1, y2, y3, y4, y5, y6, y7, y8, y9, y10, y11, rfl, sO⟩
      refine fun H3 sq k1 s3 nsq hsq T1 e1 => ?_
      have g1 : k1.length = 6 := by have := congrArg List.length e1; rw [List.length_map] at this; exact this
      refine ⟨_, rfl, 2, sq, k1, rfl, by decide, by decide, SqL.of hsq, T1, co_of e1 (by decide), by omega, by omega, fun H4 s' s4 as lg => ?_, fun H4 t1 w1 x1 h1 s' s4 f1 b1 as ee lg => ?_⟩
      · exfalso
        rw [asc_is as e1 (by decide) mem1, hul1] at lg
        simp at lg
      rw [asc_is as e1 (by decide) mem1, hul1] at ee
      have F1 : TF K H4 2 [(0, 0), (2, 0), (2, 2), (0, 2)] t1 := ⟨_, w1, x1, h1, f1, (T1.same s4).sub b1, ee⟩
      clear lg as ee b1 f1
      refine fun H5 f2 k2 s5 nf2 hf2 T2 e2 => ?_
      have g2 : k2.length = 3 := by have := congrArg List.length e2; rw [List.length_map] at this; exact this
      refine ⟨1, f2, k2, rfl, by decide, by decide, SqL.of hf2, T2, co_of e2 (by decide), by omega, by omega, fun H6 s' s6 as lg => ?_, fun H6 t2 w2 x2 h2 s' s6 f2' b2 as ee lg => ?_⟩
      · exfalso
        rw [asc_is as e2 (by decide) mem2, hul2] at lg
        simp at lg
      rw [asc_is as e2 (by decide) mem2, hul2] at ee
      have F2 : TF K H6 1 [(0, 0), (2, 0)] t2 := ⟨_, w2, x2, h2, f2', (T2.same s6).sub b2, ee⟩
      clear lg as ee b2 f2'
      refine fun H7 f3 k3 s7 nf3 hf3 T3 e3 => ?_
      have g3 : k3.length = 2 := by have := congrArg List.length e3; rw [List.length_map] at this; exact this
      refine ⟨3, f3, k3, rfl, by decide, by decide, SqL.of hf3, T3, co_of e3 (by decide), by omega, by omega, fun H8 s' s8 as lg => ?_, fun H8 t3 w3 x3 h3 s' s8 f3' b3 as ee lg => ?_⟩
      · exfalso
        rw [asc_is as e3 (by decide) mem3, hul3] at lg
        simp at lg
      rw [asc_is as e3 (by decide) mem3, hul3] at ee
      have F3 : TF K H8 3 [(1, 1)] t3 := ⟨_, w3, x3, h3, f3', (T3.same s8).sub b3, ee⟩
      clear lg as ee b3 f3'
      refine ⟨by show 3 ≤ sizeLine; decide, fun L nL => ?_⟩
      have hL : (upd H8 L (.lst [.ref t1, .ref t2, .ref t3])) L = some (.lst [.ref t1, .ref t2, .ref t3]) := upd_same
      have s9 := same_new (o := .lst [.ref t1, .ref t2, .ref t3]) nL
      have G1 := F1.same (s5.trans (s6.trans (s7.trans (s8.trans s9))))
      have G2 := F2.same (s7.trans (s8.trans s9))
      have G3 := F3.same s9
      generalize upd H8 L (.lst [.ref t1, .ref t2, .ref t3]) = H9 at hL G1 G2 G3 ⊢
      refine fun HA u1 w1 x1 k1 sA fA TA eA => ?_
      have D1 : TF K HA 2 [(0, 0), (2, 0), (2, 2), (0, 2)] u1 := ⟨_, w1, x1, k1, fA, TA, eA⟩
      refine fun HB u2 w2 x2 k2 sB fB TB eB => ?_
      have D2 : TF K HB 1 [(0, 0), (2, 0)] u2 := ⟨_, w2, x2, k2, fB, TB, eB⟩
      refine fun HC u3 w3 x3 k3 sC fC TC eC => ?_
      have D3 : TF K HC 3 [(1, 1)] u3 := ⟨_, w3, x3, k3, fC, TC, eC⟩
      refine ⟨by show 3 ≤ sizeLine; decide, fun L2 nL2 => ?_⟩
      have sD := same_new (o := .lst [.ref u1, .ref u2, .ref u3]) nL2
      have sE := sA.trans (sB.trans (sC.trans sD))
      obtain ⟨d, hd⟩ : ∃ d : PyData, d = .list [fenD 2 [(0, 0), (2, 0), (2, 2), (0, 2)], fenD 1 [(0, 0), (2, 0)], fenD 3 [(1, 1)]] := ⟨_, rfl⟩
      have sh : SeqAt.shaped d = true := by rw [hd]; decide +kernel
      refine ⟨_, rfl, _, rfl, d, d, by rw [hd]; exact .lst (SqL.of (sE _ _ hL)) (.cons (G1.same sE).dp (.cons (G2.same sE).dp (.cons (G3.same sE).dp .nil))), by rw [hd]; exact .lst (SqL.of upd_same) (.cons (D1.same (sB.trans (sC.trans sD))).dp (.cons (D2.same (sC.trans sD)).dp (.cons (D3.same sD).dp .nil))), sh, sh, ?_⟩
      rw [eqv_self sh]
      exact q _
end
end K2

set_option maxRecDepth 100000
set_option maxHeartbeats 1000000
set_option exponentiation.threshold 20000
namespace K2
open PySem PySem.Spec PyProof.Rows L2 Fen
def cImp (K : PySem.W.Frag) (C : Addr) : Bool := PySem.W.excIn K C veB "ValueError.__new__" && (PySem.W.keepIn K (.ref C) && (PySem.W.subIn K (.ref C) (.type "BaseException") == some true && (PySem.W.typeIn K (.ref C) == some (.type "type") && PySem.W.exmOne K (.ref C) (.ref C) == some true)))
theorem imp_of {K : PySem.W.Frag} {mg : Str → Option Value} {C : Addr} (g : mg "Impossible" = some (.ref C)) (h : cImp K C = true) : Imp K mg C := by
  unfold cImp at h
  simp only [Bool.and_eq_true, beq_iff_eq] at h
  obtain ⟨h1, h2, h3, h4, h5⟩ := h
  exact ⟨g, h1, h2, h3, h4, h5⟩
theorem top_mk {P : Program} {w : World} {K : PySem.W.Frag} {h : Heap} {mg : Str → Option Value} {fa C : Addr} {t1 t2 t3 t4 : Tok} (X : K.In h) (G : h.Ns mainGlobals mg) (hfa : mg "law" = some (.ref fa))
    (aP : PySem.W.nsIn K mainGlobals "Impossible" = some (some (.ref C))) (cP : cImp K C = true)
    (v1 : PySem.W.nsIn K mainGlobals "LIMIT" = some (some (.int 1000000000000000000000000000000 t1)))
    (v2 : PySem.W.nsIn K mainGlobals "GREATEST_BOTTOM" = some (some (.int 30 t2)))
    (v3 : PySem.W.nsIn K mainGlobals "MOST_CORNERS" = some (some (.int 10 t3)))
    (v4 : PySem.W.nsIn K mainGlobals "MOST_POINTS" = some (some (.int 20 t4)))
    (b0 : PySem.W.nsIn K mainGlobals "isinstance" = some none)
    (b1 : PySem.W.nsIn K mainGlobals "int" = some none)
    (b2 : PySem.W.nsIn K mainGlobals "bool" = some none)
    (b3 : PySem.W.nsIn K mainGlobals "tuple" = some none)
    (b4 : PySem.W.nsIn K mainGlobals "list" = some none)
    (b5 : PySem.W.nsIn K mainGlobals "len" = some none)
    (b6 : PySem.W.nsIn K mainGlobals "enumerate" = some none)
    (b7 : PySem.W.nsIn K mainGlobals "min" = some none)
    (b8 : PySem.W.nsIn K mainGlobals "max" = some none)
    (b9 : PySem.W.nsIn K mainGlobals "zip" = some none)
    (b10 : PySem.W.nsIn K mainGlobals "range" = some none)
    (b11 : PySem.W.nsIn K mainGlobals "repr" = some none)
    (b12 : PySem.W.nsIn K mainGlobals "sorted" = some none)
    (b13 : PySem.W.nsIn K mainGlobals "set" = some none)
    {fTurnP : Addr} {ocTurnP : Value} {odTurnP anTurnP : Option Addr} {slTurnP : Array (Option Value)} {kVTurnP dcTurnP pmTurnP cdTurnP ctTurnP : Value} (eTurnP : PySem.W.nsIn K mainGlobals "turn" = some (some (.ref fTurnP))) (lTurnP : K.lookup fTurnP = some ⟨ocTurnP, odTurnP, .func (PySem.W.fnOf "turn" "turn" (defArgs sTurnP) (defBody sTurnP) (defScope sTurnP) .none kVTurnP dcTurnP pmTurnP anTurnP cdTurnP ctTurnP), slTurnP⟩) (jTurnP : PySem.W.codeIn K cdTurnP "turn" = true) (kTurnP : PySem.W.keepIn K (.ref fTurnP) = true)
    {fHalfP : Addr} {ocHalfP : Value} {odHalfP anHalfP : Option Addr} {slHalfP : Array (Option Value)} {kVHalfP dcHalfP pmHalfP cdHalfP ctHalfP : Value} (eHalfP : PySem.W.nsIn K mainGlobals "half_hull" = some (some (.ref fHalfP))) (lHalfP : K.lookup fHalfP = some ⟨ocHalfP, odHalfP, .func (PySem.W.fnOf "half_hull" "half_hull" (defArgs sHalfP) (defBody sHalfP) (defScope sHalfP) .none kVHalfP dcHalfP pmHalfP anHalfP cdHalfP ctHalfP), slHalfP⟩) (jHalfP : PySem.W.codeIn K cdHalfP "half_hull" = true) (kHalfP : PySem.W.keepIn K (.ref fHalfP) = true)
    {fHullP : Addr} {ocHullP : Value} {odHullP anHullP : Option Addr} {slHullP : Array (Option Value)} {kVHullP dcHullP pmHullP cdHullP ctHullP : Value} (eHullP : PySem.W.nsIn K mainGlobals "convex_hull" = some (some (.ref fHullP))) (lHullP : K.lookup fHullP = some ⟨ocHullP, odHullP, .func (PySem.W.fnOf "convex_hull" "convex_hull" (defArgs sHullP) (defBody sHullP) (defScope sHullP) .none kVHullP dcHullP pmHullP anHullP cdHullP ctHullP), slHullP⟩) (jHullP : PySem.W.codeIn K cdHullP "convex_hull" = true) (kHullP : PySem.W.keepIn K (.ref fHullP) = true)
    {fInt : Addr} {ocInt : Value} {odInt anInt : Option Addr} {slInt : Array (Option Value)} {kVInt dcInt pmInt cdInt ctInt : Value} (eInt : PySem.W.nsIn K mainGlobals "is_integer" = some (some (.ref fInt))) (lInt : K.lookup fInt = some ⟨ocInt, odInt, .func (PySem.W.fnOf "is_integer" "is_integer" (defArgs sInt) (defBody sInt) (defScope sInt) .none kVInt dcInt pmInt anInt cdInt ctInt), slInt⟩) (jInt : PySem.W.codeIn K cdInt "is_integer" = true) (kInt : PySem.W.keepIn K (.ref fInt) = true)
    {fBet : Addr} {ocBet : Value} {odBet anBet : Option Addr} {slBet : Array (Option Value)} {kVBet dcBet pmBet cdBet ctBet : Value} (eBet : PySem.W.nsIn K mainGlobals "is_between" = some (some (.ref fBet))) (lBet : K.lookup fBet = some ⟨ocBet, odBet, .func (PySem.W.fnOf "is_between" "is_between" (defArgs sBet) (defBody sBet) (defScope sBet) .none kVBet dcBet pmBet anBet cdBet ctBet), slBet⟩) (jBet : PySem.W.codeIn K cdBet "is_between" = true) (kBet : PySem.W.keepIn K (.ref fBet) = true)
    {fIsP : Addr} {ocIsP : Value} {odIsP anIsP : Option Addr} {slIsP : Array (Option Value)} {kVIsP dcIsP pmIsP cdIsP ctIsP : Value} (eIsP : PySem.W.nsIn K mainGlobals "is_point" = some (some (.ref fIsP))) (lIsP : K.lookup fIsP = some ⟨ocIsP, odIsP, .func (PySem.W.fnOf "is_point" "is_point" (defArgs sIsP) (defBody sIsP) (defScope sIsP) .none kVIsP dcIsP pmIsP anIsP cdIsP ctIsP), slIsP⟩) (jIsP : PySem.W.codeIn K cdIsP "is_point" = true) (kIsP : PySem.W.keepIn K (.ref fIsP) = true)
    {fIsC : Addr} {ocIsC : Value} {odIsC anIsC : Option Addr} {slIsC : Array (Option Value)} {kVIsC dcIsC pmIsC cdIsC ctIsC : Value} (eIsC : PySem.W.nsIn K mainGlobals "is_corner" = some (some (.ref fIsC))) (lIsC : K.lookup fIsC = some ⟨ocIsC, odIsC, .func (PySem.W.fnOf "is_corner" "is_corner" (defArgs sIsC) (defBody sIsC) (defScope sIsC) .none kVIsC dcIsC pmIsC anIsC cdIsC ctIsC), slIsC⟩) (jIsC : PySem.W.codeIn K cdIsC "is_corner" = true) (kIsC : PySem.W.keepIn K (.ref fIsC) = true)
    {fIsB : Addr} {ocIsB : Value} {odIsB anIsB : Option Addr} {slIsB : Array (Option Value)} {kVIsB dcIsB pmIsB cdIsB ctIsB : Value} (eIsB : PySem.W.nsIn K mainGlobals "is_bottom" = some (some (.ref fIsB))) (lIsB : K.lookup fIsB = some ⟨ocIsB, odIsB, .func (PySem.W.fnOf "is_bottom" "is_bottom" (defArgs sIsB) (defBody sIsB) (defScope sIsB) .none kVIsB dcIsB pmIsB anIsB cdIsB ctIsB), slIsB⟩) (jIsB : PySem.W.codeIn K cdIsB "is_bottom" = true) (kIsB : PySem.W.keepIn K (.ref fIsB) = true)
    {fChB : Addr} {ocChB : Value} {odChB anChB : Option Addr} {slChB : Array (Option Value)} {kVChB dcChB pmChB cdChB ctChB : Value} (eChB : PySem.W.nsIn K mainGlobals "check_bottom" = some (some (.ref fChB))) (lChB : K.lookup fChB = some ⟨ocChB, odChB, .func (PySem.W.fnOf "check_bottom" "check_bottom" (defArgs sChB) (defBody sChB) (defScope sChB) .none kVChB dcChB pmChB anChB cdChB ctChB), slChB⟩) (jChB : PySem.W.codeIn K cdChB "check_bottom" = true) (kChB : PySem.W.keepIn K (.ref fChB) = true)
    {fChP : Addr} {ocChP : Value} {odChP anChP : Option Addr} {slChP : Array (Option Value)} {kVChP dcChP pmChP cdChP ctChP : Value} (eChP : PySem.W.nsIn K mainGlobals "check_points" = some (some (.ref fChP))) (lChP : K.lookup fChP = some ⟨ocChP, odChP, .func (PySem.W.fnOf "check_points" "check_points" (defArgs sChP) (defBody sChP) (defScope sChP) .none kVChP dcChP pmChP anChP cdChP ctChP), slChP⟩) (jChP : PySem.W.codeIn K cdChP "check_points" = true) (kChP : PySem.W.keepIn K (.ref fChP) = true)
    {fFen : Addr} {ocFen : Value} {odFen anFen : Option Addr} {slFen : Array (Option Value)} {kVFen dcFen pmFen cdFen ctFen : Value} (eFen : PySem.W.nsIn K mainGlobals "fence_of" = some (some (.ref fFen))) (lFen : K.lookup fFen = some ⟨ocFen, odFen, .func (PySem.W.fnOf "fence_of" "fence_of" (defArgs sFen) (defBody sFen) (defScope sFen) .none kVFen dcFen pmFen anFen cdFen ctFen), slFen⟩) (jFen : PySem.W.codeIn K cdFen "fence_of" = true) (kFen : PySem.W.keepIn K (.ref fFen) = true)
    {fBag : Addr} {ocBag : Value} {odBag anBag : Option Addr} {slBag : Array (Option Value)} {kVBag dcBag pmBag cdBag ctBag : Value} (eBag : PySem.W.nsIn K mainGlobals "_law_bag" = some (some (.ref fBag))) (lBag : K.lookup fBag = some ⟨ocBag, odBag, .func (PySem.W.fnOf "_law_bag" "_law_bag" (defArgs sBag) (defBody sBag) (defScope sBag) .none kVBag dcBag pmBag anBag cdBag ctBag), slBag⟩) (jBag : PySem.W.codeIn K cdBag "_law_bag" = true) (kBag : PySem.W.keepIn K (.ref fBag) = true)
    {fPick : Addr} {ocPick : Value} {odPick anPick : Option Addr} {slPick : Array (Option Value)} {kVPick dcPick pmPick cdPick ctPick : Value} (ePick : PySem.W.nsIn K mainGlobals "_law_pick" = some (some (.ref fPick))) (lPick : K.lookup fPick = some ⟨ocPick, odPick, .func (PySem.W.fnOf "_law_pick" "_law_pick" (defArgs sPick) (defBody sPick) (defScope sPick) .none kVPick dcPick pmPick anPick cdPick ctPick), slPick⟩) (jPick : PySem.W.codeIn K cdPick "_law_pick" = true) (kPick : PySem.W.keepIn K (.ref fPick) = true)
    {fTurnL : Addr} {ocTurnL : Value} {odTurnL anTurnL : Option Addr} {slTurnL : Array (Option Value)} {kVTurnL dcTurnL pmTurnL cdTurnL ctTurnL : Value} (eTurnL : PySem.W.nsIn K mainGlobals "_law_turn" = some (some (.ref fTurnL))) (lTurnL : K.lookup fTurnL = some ⟨ocTurnL, odTurnL, .func (PySem.W.fnOf "_law_turn" "_law_turn" (defArgs sTurnL) (defBody sTurnL) (defScope sTurnL) .none kVTurnL dcTurnL pmTurnL anTurnL cdTurnL ctTurnL), slTurnL⟩) (jTurnL : PySem.W.codeIn K cdTurnL "_law_turn" = true) (kTurnL : PySem.W.keepIn K (.ref fTurnL) = true)
    {fHalfL : Addr} {ocHalfL : Value} {odHalfL anHalfL : Option Addr} {slHalfL : Array (Option Value)} {kVHalfL dcHalfL pmHalfL cdHalfL ctHalfL : Value} (eHalfL : PySem.W.nsIn K mainGlobals "_law_half" = some (some (.ref fHalfL))) (lHalfL : K.lookup fHalfL = some ⟨ocHalfL, odHalfL, .func (PySem.W.fnOf "_law_half" "_law_half" (defArgs sHalfL) (defBody sHalfL) (defScope sHalfL) .none kVHalfL dcHalfL pmHalfL anHalfL cdHalfL ctHalfL), slHalfL⟩) (jHalfL : PySem.W.codeIn K cdHalfL "_law_half" = true) (kHalfL : PySem.W.keepIn K (.ref fHalfL) = true)
    {fHullL : Addr} {ocHullL : Value} {odHullL anHullL : Option Addr} {slHullL : Array (Option Value)} {kVHullL dcHullL pmHullL cdHullL ctHullL : Value} (eHullL : PySem.W.nsIn K mainGlobals "_law_hull" = some (some (.ref fHullL))) (lHullL : K.lookup fHullL = some ⟨ocHullL, odHullL, .func (PySem.W.fnOf "_law_hull" "_law_hull" (defArgs sHullL) (defBody sHullL) (defScope sHullL) .none kVHullL dcHullL pmHullL anHullL cdHullL ctHullL), slHullL⟩) (jHullL : PySem.W.codeIn K cdHullL "_law_hull" = true) (kHullL : PySem.W.keepIn K (.ref fHullL) = true)
    {fPts : Addr} {ocPts : Value} {odPts anPts : Option Addr} {slPts : Array (Option Value)} {kVPts dcPts pmPts cdPts ctPts : Value} (ePts : PySem.W.nsIn K mainGlobals "_law_points" = some (some (.ref fPts))) (lPts : K.lookup fPts = some ⟨ocPts, odPts, .func (PySem.W.fnOf "_law_points" "_law_points" (defArgs sPts) (defBody sPts) (defScope sPts) .none kVPts dcPts pmPts anPts cdPts ctPts), slPts⟩) (jPts : PySem.W.codeIn K cdPts "_law_points" = true) (kPts : PySem.W.keepIn K (.ref fPts) = true)
    {fTold : Addr} {ocTold : Value} {odTold anTold : Option Addr} {slTold : Array (Option Value)} {kVTold dcTold pmTold cdTold ctTold : Value} (eTold : PySem.W.nsIn K mainGlobals "_law_told" = some (some (.ref fTold))) (lTold : K.lookup fTold = some ⟨ocTold, odTold, .func (PySem.W.fnOf "_law_told" "_law_told" (defArgs sTold) (defBody sTold) (defScope sTold) .none kVTold dcTold pmTold anTold cdTold ctTold), slTold⟩) (jTold : PySem.W.codeIn K cdTold "_law_told" = true) (kTold : PySem.W.keepIn K (.ref fTold) = true)
    {fAr : Addr} {ocAr : Value} {odAr anAr : Option Addr} {slAr : Array (Option Value)} {kVAr dcAr pmAr cdAr ctAr : Value} (eAr : PySem.W.nsIn K mainGlobals "_law_around" = some (some (.ref fAr))) (lAr : K.lookup fAr = some ⟨ocAr, odAr, .func (PySem.W.fnOf "_law_around" "_law_around" (defArgs sAr) (defBody sAr) (defScope sAr) .none kVAr dcAr pmAr anAr cdAr ctAr), slAr⟩) (jAr : PySem.W.codeIn K cdAr "_law_around" = true) (kAr : PySem.W.keepIn K (.ref fAr) = true)
    {fMix : Addr} {ocMix : Value} {odMix anMix : Option Addr} {slMix : Array (Option Value)} {kVMix dcMix pmMix cdMix ctMix : Value} (eMix : PySem.W.nsIn K mainGlobals "_law_mixed" = some (some (.ref fMix))) (lMix : K.lookup fMix = some ⟨ocMix, odMix, .func (PySem.W.fnOf "_law_mixed" "_law_mixed" (defArgs sMix) (defBody sMix) (defScope sMix) .none kVMix dcMix pmMix anMix cdMix ctMix), slMix⟩) (jMix : PySem.W.codeIn K cdMix "_law_mixed" = true) (kMix : PySem.W.keepIn K (.ref fMix) = true)
    {fRt : Addr} {ocRt : Value} {odRt anRt : Option Addr} {slRt : Array (Option Value)} {kVRt dcRt pmRt cdRt ctRt : Value} (eRt : PySem.W.nsIn K mainGlobals "_law_right" = some (some (.ref fRt))) (lRt : K.lookup fRt = some ⟨ocRt, odRt, .func (PySem.W.fnOf "_law_right" "_law_right" (defArgs sRt) (defBody sRt) (defScope sRt) .none kVRt dcRt pmRt anRt cdRt ctRt), slRt⟩) (jRt : PySem.W.codeIn K cdRt "_law_right" = true) (kRt : PySem.W.keepIn K (.ref fRt) = true)
    {fLw : Addr} {ocLw : Value} {odLw anLw : Option Addr} {slLw : Array (Option Value)} {kVLw dcLw pmLw cdLw ctLw : Value} (eLw : PySem.W.nsIn K mainGlobals "law" = some (some (.ref fLw))) (lLw : K.lookup fLw = some ⟨ocLw, odLw, .func (PySem.W.fnOf "law" "law" (defArgs sLw) (defBody sLw) (defScope sLw) .none kVLw dcLw pmLw anLw cdLw ctLw), slLw⟩) (jLw : PySem.W.codeIn K cdLw "law" = true) (kLw : PySem.W.keepIn K (.ref fLw) = true)
    : ∃ fd : FuncData, (∀ (s : Shared) (u : Value), BindsTo s fd ⟨[u], []⟩ [("_law_script", u)]) ∧ ∀ base : Heap, K.In base → base.Ns mainGlobals mg → FnG P w K mg base CX0 8 fa fd ["_law_script"] (spLw K) := by
  have z := hfa.symm.trans (PySem.W.mg_of X G eLw)
  cases z
  have m : ∀ {x : Str} {v : Value}, PySem.W.nsIn K mainGlobals x = some (some v) → mg x = some v := fun e => PySem.W.mg_of X G e
  have n : ∀ {x : Str}, PySem.W.nsIn K mainGlobals x = some none → mg x = none := fun e => PySem.W.mg_none_of X G e
  have e30 : (1000000000000000000000000000000 : Int) = 10 ^ 30 := by decide
  have T : Nms mg := ⟨n b0, n b1, n b2, n b3, n b4, n b5, n b6, ⟨t1, by rw [m v1, e30]⟩, ⟨t2, m v2⟩, ⟨t3, m v3⟩, ⟨t4, m v4⟩⟩
  have T2 : Nm2 mg := ⟨n b7, n b8, n b9⟩
  have I : Imp K mg C := imp_of (m aP) cP
  have FTurnP := fun_mk (st := sTurnP) lTurnP jTurnP kTurnP
  have BTurnP := FTurnP.binds (ps := ["one", "two", "three"]) fun _ _ _ _ _ _ us hl => match us, hl with | [_, _, _], _ => rfl
  have FHalfP := fun_mk (st := sHalfP) lHalfP jHalfP kHalfP
  have BHalfP := FHalfP.binds (ps := ["points"]) fun _ _ _ _ _ _ us hl => match us, hl with | [_], _ => rfl
  have FHullP := fun_mk (st := sHullP) lHullP jHullP kHullP
  have BHullP := FHullP.binds (ps := ["points"]) fun _ _ _ _ _ _ us hl => match us, hl with | [_], _ => rfl
  have FInt := fun_mk (st := sInt) lInt jInt kInt
  have BInt := FInt.binds (ps := ["value"]) fun _ _ _ _ _ _ us hl => match us, hl with | [_], _ => rfl
  have FBet := fun_mk (st := sBet) lBet jBet kBet
  have BBet := FBet.binds (ps := ["value", "least", "greatest"]) fun _ _ _ _ _ _ us hl => match us, hl with | [_, _, _], _ => rfl
  have FIsP := fun_mk (st := sIsP) lIsP jIsP kIsP
  have BIsP := FIsP.binds (ps := ["value"]) fun _ _ _ _ _ _ us hl => match us, hl with | [_], _ => rfl
  have FIsC := fun_mk (st := sIsC) lIsC jIsC kIsC
  have BIsC := FIsC.binds (ps := ["value"]) fun _ _ _ _ _ _ us hl => match us, hl with | [_], _ => rfl
  have FIsB := fun_mk (st := sIsB) lIsB jIsB kIsB
  have BIsB := FIsB.binds (ps := ["value"]) fun _ _ _ _ _ _ us hl => match us, hl with | [_], _ => rfl
  have FChB := fun_mk (st := sChB) lChB jChB kChB
  have BChB := FChB.binds (ps := ["value"]) fun _ _ _ _ _ _ us hl => match us, hl with | [_], _ => rfl
  have FChP := fun_mk (st := sChP) lChP jChP kChP
  have BChP := FChP.binds (ps := ["value"]) fun _ _ _ _ _ _ us hl => match us, hl with | [_], _ => rfl
  have FFen := fun_mk (st := sFen) lFen jFen kFen
  have BFen := FFen.binds (ps := ["bottom", "points"]) fun _ _ _ _ _ _ us hl => match us, hl with | [_, _], _ => rfl
  have FBag := fun_mk (st := sBag) lBag jBag kBag
  have BBag := FBag.binds (ps := ["_law_cell"]) fun _ _ _ _ _ _ us hl => match us, hl with | [_], _ => rfl
  have FPick := fun_mk (st := sPick) lPick jPick kPick
  have BPick := FPick.binds (ps := ["_law_bag_here", "_law_many"]) fun _ _ _ _ _ _ us hl => match us, hl with | [_, _], _ => rfl
  have FTurnL := fun_mk (st := sTurnL) lTurnL jTurnL kTurnL
  have BTurnL := FTurnL.binds (ps := ["_law_one", "_law_two", "_law_three"]) fun _ _ _ _ _ _ us hl => match us, hl with | [_, _, _], _ => rfl
  have FHalfL := fun_mk (st := sHalfL) lHalfL jHalfL kHalfL
  have BHalfL := FHalfL.binds (ps := ["_law_points_here"]) fun _ _ _ _ _ _ us hl => match us, hl with | [_], _ => rfl
  have FHullL := fun_mk (st := sHullL) lHullL jHullL kHullL
  have BHullL := FHullL.binds (ps := ["_law_points_here"]) fun _ _ _ _ _ _ us hl => match us, hl with | [_], _ => rfl
  have FPts := fun_mk (st := sPts) lPts jPts kPts
  have BPts := FPts.binds (ps := ["_law_bag_here", "_law_many", "_law_wide"]) fun _ _ _ _ _ _ us hl => match us, hl with | [_, _, _], _ => rfl
  have FTold := fun_mk (st := sTold) lTold jTold kTold
  have BTold := FTold.binds (ps := ["_law_bottom", "_law_points_here"]) fun _ _ _ _ _ _ us hl => match us, hl with | [_, _], _ => rfl
  have FAr := fun_mk (st := sAr) lAr jAr kAr
  have BAr := FAr.binds (ps := ["_law_corners", "_law_points_here"]) fun _ _ _ _ _ _ us hl => match us, hl with | [_, _], _ => rfl
  have FMix := fun_mk (st := sMix) lMix jMix kMix
  have BMix := FMix.binds (ps := ["_law_bag_here", "_law_points_here"]) fun _ _ _ _ _ _ us hl => match us, hl with | [_, _], _ => rfl
  have FRt := fun_mk (st := sRt) lRt jRt kRt
  have BRt := FRt.binds (ps := ["_law_bag_here", "_law_bottom", "_law_points_here"]) fun _ _ _ _ _ _ us hl => match us, hl with | [_, _, _], _ => rfl
  have FLw := fun_mk (st := sLw) lLw jLw kLw
  refine ⟨PySem.W.fnOf "law" "law" (defArgs sLw) (defBody sLw) (defScope sLw) .none kVLw dcLw pmLw anLw cdLw ctLw, fun s v => .of_eq rfl, fun base _ _ => ?_⟩
  have oHalfP : FnOk P w K mg base CX0 2 fHalfP _ ["points"] (spHalf K) := ok_HalfP FHalfP FTurnP BTurnP (m eTurnP) (n b5)
  have oHullP : FnOk P w K mg base CX0 3 fHullP _ ["points"] (spHul K) := ok_HullP FHullP oHalfP FHalfP.kp BHalfP (m eHalfP) (n b5) (n b12) (n b13)
  have oBet : FnOk P w K mg base CX0 2 fBet _ ["value", "least", "greatest"] spBet := ok_bet FBet FInt BInt (m eInt) T
  have oIsP : FnOk P w K mg base CX0 2 fIsP _ ["value"] (spIsP K) := ok_isP FIsP FInt BInt (m eInt) T
  have oIsC : FnOk P w K mg base CX0 3 fIsC _ ["value"] (spIsC K) := ok_isC FIsC oIsP FIsP.kp BIsP (m eIsP) T
  have oIsB : FnOk P w K mg base CX0 3 fIsB _ ["value"] spIsB := ok_isB FIsB oBet FBet.kp BBet (m eBet) T
  have oChB : FnOk P w K mg base CX0 4 fChB _ ["value"] spChB := ok_chB FChB oIsB FIsB.kp BIsB (m eIsB)
  have oChP : FnOk P w K mg base CX0 4 fChP _ ["value"] (spChP K) := ok_chP FChP oIsC FIsC.kp BIsC (m eIsC) T
  have oFen : FnOk P w K mg base (L2.CX P w) 5 fFen _ ["bottom", "points"] (spFen K C) := ok_fen FFen T I oChB FChB.kp BChB (m eChB) oChP FChP.kp BChP (m eChP) (oHullP.mono (by decide)) FHullP.kp BHullP (m eHullP)
  have oTold : FnOk P w K mg base CX0 6 fTold _ ["_law_bottom", "_law_points_here"] (spTold K) := ok_told FTold I oFen FFen.kp BFen (m eFen)
  have oHalfL : FnOk P w K mg base CX0 2 fHalfL _ ["_law_points_here"] (spHalf K) := ok_HalfL FHalfL FTurnL BTurnL (m eTurnL) (n b5)
  have oHullL : FnOk P w K mg base CX0 3 fHullL _ ["_law_points_here"] (spHul K) := ok_HullL FHullL oHalfL FHalfL.kp BHalfL (m eHalfL) (n b5) (n b12) (n b13)
  have oPick : FnOk P w K mg base CX0 1 fPick _ ["_law_bag_here", "_law_many"] spPick := ok_pick FPick (n b1)
  have oBag : FnOk P w K mg base CX0 1 fBag _ ["_law_cell"] spBag := ok_bag FBag (n b1) (n b8)
  have oPts : FnOk P w K mg base CX0 2 fPts _ ["_law_bag_here", "_law_many", "_law_wide"] (spPts K) := ok_pts FPts FPick BPick (m ePick) (n b1) (n b10)
  have oAr : FnOk P w K mg base CX0 2 fAr _ ["_law_corners", "_law_points_here"] (spAr K) := ok_ar FAr FTurnL BTurnL (m eTurnL) T T2
  have oMix : FnOk P w K mg base CX0 2 fMix _ ["_law_bag_here", "_law_points_here"] (spMix K) := ok_mix FMix FPick BPick (m ePick) (n b1) T T2
  have oRt : FnG P w K mg base CX0 7 fRt _ ["_law_bag_here", "_law_bottom", "_law_points_here"] (spRt K) := ok_rt FRt T T2 (n b11) (oHullL.mono (by decide)) FHullL.kp BHullL (m eHullL) oTold FTold.kp BTold (m eTold) (oAr.mono (by decide)) FAr.kp BAr (m eAr) (oMix.mono (by decide)) FMix.kp BMix (m eMix)
  exact ok_lw FLw T T2 (n b10) (oBag.mono (by decide)) FBag.kp BBag (m eBag) (oPick.mono (by decide)) FPick.kp BPick (m ePick) (oPts.mono (by decide)) FPts.kp BPts (m ePts) (oTold.mono (by decide)) FTold.kp BTold (m eTold) oRt FRt.kp BRt (m eRt)
end K2

set_option maxRecDepth 100000
open PySem PySem.W PyProof.Rows
set_option maxHeartbeats 0 in
theorem PySem.Challenge.cw_growfences_k02_around_points_holds : PySem.Challenge.rw_growfences_k02_around_points.Holds := by
  w_on; o_law; k_head; (case hw => w_witness2)
  k_fill
  refine L2.walk_ofG (l := PySem.Challenge.rw_growfences_k02_around_points) (n := 63) (k := 8) (x := "_law_script") (sp := fun w => K2.spLw _) rfl (by decide) rfl ⟨rfl, by decide, by decide⟩ (fun w h Y => PySem.W.kIn_of Y) ?F (fun _ _ a ns hl _ hS => ⟨a, ns, rfl, hS, hl, fun _ => rfl⟩)
  case F =>
    intro w mg fa h KX G hmg
    refine' K2.top_mk KX G hmg ?aP ?cP ?v1 ?v2 ?v3 ?v4 ?b0 ?b1 ?b2 ?b3 ?b4 ?b5 ?b6 ?b7 ?b8 ?b9 ?b10 ?b11 ?b12 ?b13 ?eTurnP ?lTurnP ?jTurnP ?kTurnP ?eHalfP ?lHalfP ?jHalfP ?kHalfP ?eHullP ?lHullP ?jHullP ?kHullP ?eInt ?lInt ?jInt ?kInt ?eBet ?lBet ?jBet ?kBet ?eIsP ?lIsP ?jIsP ?kIsP ?eIsC ?lIsC ?jIsC ?kIsC ?eIsB ?lIsB ?jIsB ?kIsB ?eChB ?lChB ?jChB ?kChB ?eChP ?lChP ?jChP ?kChP ?eFen ?lFen ?jFen ?kFen ?eBag ?lBag ?jBag ?kBag ?ePick ?lPick ?jPick ?kPick ?eTurnL ?lTurnL ?jTurnL ?kTurnL ?eHalfL ?lHalfL ?jHalfL ?kHalfL ?eHullL ?lHullL ?jHullL ?kHullL ?ePts ?lPts ?jPts ?kPts ?eTold ?lTold ?jTold ?kTold ?eAr ?lAr ?jAr ?kAr ?eMix ?lMix ?jMix ?kMix ?eRt ?lRt ?jRt ?kRt ?eLw ?lLw ?jLw ?kLw
    (case aP => k_is)
    (case cP => kernel_rfl)
    (case v1 => k_is)
    (case v2 => k_is)
    (case v3 => k_is)
    (case v4 => k_is)
    (case b0 => k_is)
    (case b1 => k_is)
    (case b2 => k_is)
    (case b3 => k_is)
    (case b4 => k_is)
    (case b5 => k_is)
    (case b6 => k_is)
    (case b7 => k_is)
    (case b8 => k_is)
    (case b9 => k_is)
    (case b10 => k_is)
    (case b11 => k_is)
    (case b12 => k_is)
    (case b13 => k_is)
    (case eTurnP => k_is)
    (case lTurnP => k_is)
    (case jTurnP => k_is)
    (case kTurnP => k_is)
    (case eHalfP => k_is)
    (case lHalfP => k_is)
    (case jHalfP => k_is)
    (case kHalfP => k_is)
    (case eHullP => k_is)
    (case lHullP => k_is)
    (case jHullP => k_is)
    (case kHullP => k_is)
    (case eInt => k_is)
    (case lInt => k_is)
    (case jInt => k_is)
    (case kInt => k_is)
    (case eBet => k_is)
    (case lBet => k_is)
    (case jBet => k_is)
    (case kBet => k_is)
    (case eIsP => k_is)
    (case lIsP => k_is)
    (case jIsP => k_is)
    (case kIsP => k_is)
    (case eIsC => k_is)
    (case lIsC => k_is)
    (case jIsC => k_is)
    (case kIsC => k_is)
    (case eIsB => k_is)
    (case lIsB => k_is)
    (case jIsB => k_is)
    (case kIsB => k_is)
    (case eChB => k_is)
    (case lChB => k_is)
    (case jChB => k_is)
    (case kChB => k_is)
    (case eChP => k_is)
    (case lChP => k_is)
    (case jChP => k_is)
    (case kChP => k_is)
    (case eFen => k_is)
    (case lFen => k_is)
    (case jFen => k_is)
    (case kFen => k_is)
    (case eBag => k_is)
    (case lBag => k_is)
    (case jBag => k_is)
    (case kBag => k_is)
    (case ePick => k_is)
    (case lPick => k_is)
    (case jPick => k_is)
    (case kPick => k_is)
    (case eTurnL => k_is)
    (case lTurnL => k_is)
    (case jTurnL => k_is)
    (case kTurnL => k_is)
    (case eHalfL => k_is)
    (case lHalfL => k_is)
    (case jHalfL => k_is)
    (case kHalfL => k_is)
    (case eHullL => k_is)
    (case lHullL => k_is)
    (case jHullL => k_is)
    (case kHullL => k_is)
    (case ePts => k_is)
    (case lPts => k_is)
    (case jPts => k_is)
    (case kPts => k_is)
    (case eTold => k_is)
    (case lTold => k_is)
    (case jTold => k_is)
    (case kTold => k_is)
    (case eAr => k_is)
    (case lAr => k_is)
    (case jAr => k_is)
    (case kAr => k_is)
    (case eMix => k_is)
    (case lMix => k_is)
    (case jMix => k_is)
    (case kMix => k_is)
    (case eRt => k_is)
    (case lRt => k_is)
    (case jRt => k_is)
    (case kRt => k_is)
    (case eLw => k_is)
    (case lLw => k_is)
    (case jLw => k_is)
    (case kLw => k_is)

