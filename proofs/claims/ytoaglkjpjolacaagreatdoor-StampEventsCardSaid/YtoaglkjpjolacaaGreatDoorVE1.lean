/-
  Plain facts on event trees: which are right, their normal form, what they denote, how they stand, their joins. No program here.
-/
import Derived.Below
import Derived.IntWalk
namespace Go.Proofs.YtoaglkjpjolacaaGreatDoor.E
/-- A right tree's shape. -/
inductive Tr where
  | leaf (n : Int) : Tr
  | node (n : Int) (l r : Tr) : Tr
/-- Whatever trees came in, one behind the other: the first one's N, its kids, the rest. -/
inductive Fo where
  | nil : Fo
  | cons (n : Int) (ks rest : Fo) : Fo
namespace Tr
def depth : Tr → Nat
  | leaf _ => 0
  | node _ l r => max l.depth r.depth + 1
def nodes : Tr → Nat
  | leaf _ => 1
  | node _ l r => l.nodes + r.nodes + 1
theorem nodes_pos (t : Tr) : 1 ≤ t.nodes := by cases t <;> simp [nodes]
def N : Tr → Int
  | leaf n => n
  | node n _ _ => n
def add (d : Int) : Tr → Tr
  | leaf n => leaf (n + d)
  | node n l r => node (n + d) l r
theorem add_N (t : Tr) (d : Int) : (t.add d).N = t.N + d := by cases t <;> rfl
theorem add_zero (t : Tr) : t.add 0 = t := by cases t <;> simp [add]
theorem add_add (t : Tr) (d e : Int) : (t.add d).add e = t.add (d + e) := by cases t <;> simp [add, Int.add_assoc]
theorem add_depth (t : Tr) (d : Int) : (t.add d).depth = t.depth := by cases t <;> rfl
theorem add_nodes (t : Tr) (d : Int) : (t.add d).nodes = t.nodes := by cases t <;> rfl
/-- No N below 0, no path beyond m. -/
def okc : Tr → Int → Bool
  | leaf n, m => decide (0 ≤ n ∧ n ≤ m)
  | node n l r, m => decide (0 ≤ n ∧ n ≤ m) && (l.okc (m - n) && r.okc (m - n))
def alike : Tr → Tr → Bool
  | leaf a, leaf b => decide (a = b)
  | _, _ => false
theorem alike_add (a b : Tr) (d : Int) : alike (a.add d) (b.add d) = alike a b := by
  cases a <;> cases b <;> simp [alike, add]
/-- A node over two normal forms, in normal form. -/
def raise (n : Int) (a b : Tr) : Tr := if alike a b = true then leaf (n + a.N) else node (n + min a.N b.N) (a.add (-(min a.N b.N))) (b.add (-(min a.N b.N)))
def norm : Tr → Tr
  | leaf n => leaf n
  | node n l r => raise n l.norm r.norm
theorem raise_add (n s : Int) (a b : Tr) : (raise n a b).add s = raise (n + s) a b := by
  unfold raise
  split
  · simp only [add]; congr 1; omega
  · simp only [add]; congr 1; omega
theorem raise_of_add (m d : Int) (a b : Tr) : raise m (a.add d) (b.add d) = raise (m + d) a b := by
  unfold raise
  rw [alike_add]
  have e : min (a.add d).N (b.add d).N = min a.N b.N + d := by rw [add_N, add_N]; omega
  split
  · rw [add_N]; congr 1; omega
  · rw [e, add_add, add_add, show d + -(min a.N b.N + d) = -(min a.N b.N) by omega]; congr 1; omega
theorem raise_N (n : Int) (a b : Tr) : (raise n a b).N = n + min a.N b.N := by
  unfold raise
  split
  · rename_i h
    cases a with
    | leaf x =>
      cases b with
      | leaf y => simp [alike] at h; subst h; simp [N]
      | node _ _ _ => simp [alike] at h
    | node _ _ _ => simp [alike] at h
  · rfl
/-- The tree of counts, piece by piece. -/
def bld (h : Nat → Int) : Nat → Nat → Tr
  | 0, a => leaf (h a)
  | k + 1, a => raise 0 (bld h k a) (bld h k (a + 2 ^ k))
def lo (h : Nat → Int) : Nat → Nat → Int
  | 0, a => h a
  | k + 1, a => min (lo h k a) (lo h k (a + 2 ^ k))
def hi (h : Nat → Int) : Nat → Nat → Int
  | 0, a => h a
  | k + 1, a => max (hi h k a) (hi h k (a + 2 ^ k))
theorem lo_le_hi (h : Nat → Int) : ∀ k a, lo h k a ≤ hi h k a
  | 0, _ => Int.le_refl _
  | k + 1, a => by have := lo_le_hi h k a; have := lo_le_hi h k (a + 2 ^ k); simp only [lo, hi]; omega
theorem lo_le (h : Nat → Int) : ∀ k a p, a ≤ p → p < a + 2 ^ k → lo h k a ≤ h p
  | 0, a, p, h1, h2 => by
    have e : p = a := by omega
    subst e; exact Int.le_refl _
  | k + 1, a, p, h1, h2 => by
    rw [Nat.pow_succ] at h2
    by_cases hp : p < a + 2 ^ k
    · have := lo_le h k a p h1 hp; simp only [lo]; omega
    · have := lo_le h k (a + 2 ^ k) p (by omega) (by omega); simp only [lo]; omega
theorem le_hi (h : Nat → Int) : ∀ k a p, a ≤ p → p < a + 2 ^ k → h p ≤ hi h k a
  | 0, a, p, h1, h2 => by
    have e : p = a := by omega
    subst e; exact Int.le_refl _
  | k + 1, a, p, h1, h2 => by
    rw [Nat.pow_succ] at h2
    by_cases hp : p < a + 2 ^ k
    · have := le_hi h k a p h1 hp; simp only [hi]; omega
    · have := le_hi h k (a + 2 ^ k) p (by omega) (by omega); simp only [hi]; omega
theorem lo_at (h : Nat → Int) : ∀ k a, ∃ p, a ≤ p ∧ p < a + 2 ^ k ∧ h p = lo h k a
  | 0, a => ⟨a, Nat.le_refl _, by simp, rfl⟩
  | k + 1, a => by
    have hp := Nat.two_pow_pos k
    rw [Nat.pow_succ]
    by_cases c : lo h k a ≤ lo h k (a + 2 ^ k)
    · obtain ⟨p, h1, h2, h3⟩ := lo_at h k a
      exact ⟨p, h1, by omega, by simp only [lo]; omega⟩
    · obtain ⟨p, h1, h2, h3⟩ := lo_at h k (a + 2 ^ k)
      exact ⟨p, by omega, by omega, by simp only [lo]; omega⟩
theorem hi_at (h : Nat → Int) : ∀ k a, ∃ p, a ≤ p ∧ p < a + 2 ^ k ∧ h p = hi h k a
  | 0, a => ⟨a, Nat.le_refl _, by simp, rfl⟩
  | k + 1, a => by
    have hp := Nat.two_pow_pos k
    rw [Nat.pow_succ]
    by_cases c : hi h k (a + 2 ^ k) ≤ hi h k a
    · obtain ⟨p, h1, h2, h3⟩ := hi_at h k a
      exact ⟨p, h1, by omega, by simp only [hi]; omega⟩
    · obtain ⟨p, h1, h2, h3⟩ := hi_at h k (a + 2 ^ k)
      exact ⟨p, by omega, by omega, by simp only [hi]; omega⟩
theorem bld_N (h : Nat → Int) : ∀ k a, (bld h k a).N = lo h k a
  | 0, _ => rfl
  | k + 1, a => by rw [bld, raise_N, bld_N h k, bld_N h k, lo]; omega
theorem bld_leaf (h : Nat → Int) : ∀ k a, (lo h k a = hi h k a) ↔ bld h k a = leaf (lo h k a)
  | 0, a => by simp [bld, lo, hi]
  | k + 1, a => by
    have i1 := bld_leaf h k a
    have i2 := bld_leaf h k (a + 2 ^ k)
    have l1 := lo_le_hi h k a
    have l2 := lo_le_hi h k (a + 2 ^ k)
    have n1 := bld_N h k a
    have n2 := bld_N h k (a + 2 ^ k)
    simp only [bld, lo, hi]
    unfold raise
    constructor
    · intro e
      have e1 := i1.1 (by omega)
      have e2 := i2.1 (by omega)
      rw [e1, e2]
      have e3 : lo h k a = lo h k (a + 2 ^ k) := by omega
      simp [alike, e3, N]
    · intro e
      split at e
      · rename_i ha
        generalize bld h k a = A at *
        generalize bld h k (a + 2 ^ k) = B at *
        cases A with
        | leaf x =>
          cases B with
          | leaf y =>
            simp [alike] at ha
            simp only [N] at n1 n2
            have j1 := i1.2 (by rw [n1])
            have j2 := i2.2 (by rw [n2])
            omega
          | node _ _ _ => simp [alike] at ha
        | node _ _ _ => simp [alike] at ha
      · cases e
/-- How the document's answer is put together. -/
theorem bld_step (h : Nat → Int) (k a : Nat) : bld h (k + 1) a = if hi h (k + 1) a = lo h (k + 1) a then leaf (lo h (k + 1) a) else node (lo h (k + 1) a) ((bld h k a).add (-(lo h (k + 1) a))) ((bld h k (a + 2 ^ k)).add (-(lo h (k + 1) a))) := by
  split
  · rename_i e
    exact (bld_leaf h (k + 1) a).1 e.symm
  · rename_i e
    have hne : ¬ bld h (k + 1) a = leaf (lo h (k + 1) a) := fun hh => e ((bld_leaf h (k + 1) a).2 hh).symm
    have hN := bld_N h (k + 1) a
    rw [bld] at hne hN ⊢
    have n1 := bld_N h k a
    have n2 := bld_N h k (a + 2 ^ k)
    generalize bld h k a = A at *
    generalize bld h k (a + 2 ^ k) = B at *
    unfold raise at hne hN ⊢
    split
    · rename_i ha
      rw [if_pos ha] at hne hN
      exact absurd (by rw [← hN]; rfl) hne
    · rename_i ha
      have hm : (0 : Int) + min A.N B.N = lo h (k + 1) a := by rw [if_neg ha] at hN; exact hN
      rw [show min A.N B.N = lo h (k + 1) a by omega, Int.zero_add]
theorem bld_congr {h g : Nat → Int} : ∀ (k a : Nat), (∀ p, a ≤ p → p < a + 2 ^ k → h p = g p) → bld h k a = bld g k a
  | 0, a, e => by simp only [bld]; rw [e a (Nat.le_refl _) (by simp)]
  | k + 1, a, e => by
    rw [Nat.pow_succ] at e
    have hp := Nat.two_pow_pos k
    simp only [bld]
    rw [bld_congr k a fun p h1 h2 => e p h1 (by omega), bld_congr k (a + 2 ^ k) fun p h1 h2 => e p (by omega) (by omega)]
theorem bld_const {h : Nat → Int} {c : Int} (k a : Nat) (e : ∀ p, a ≤ p → p < a + 2 ^ k → h p = c) : bld h k a = leaf c := by
  obtain ⟨p, h1, h2, h3⟩ := lo_at h k a
  obtain ⟨q, g1, g2, g3⟩ := hi_at h k a
  have e1 := e p h1 h2
  have e2 := e q g1 g2
  have := (bld_leaf h k a).1 (by omega)
  rw [this, show lo h k a = c by omega]
/-- Counts, piece by piece, say what a tree says. -/
def Cov (h : Nat → Int) : Tr → Nat → Nat → Int → Prop
  | leaf n, k, a, s => ∀ p, a ≤ p → p < a + 2 ^ k → h p = s + n
  | node _ _ _, 0, _, _ => False
  | node n l r, k + 1, a, s => Cov h l k a (s + n) ∧ Cov h r k (a + 2 ^ k) (s + n)
theorem bld_norm {h : Nat → Int} : ∀ (t : Tr) (k a : Nat) (s : Int), Cov h t k a s → bld h k a = t.norm.add s
  | leaf n, k, a, s, c => by rw [bld_const k a c, norm, add]; congr 1; omega
  | node _ _ _, 0, _, _, c => c.elim
  | node n l r, k + 1, a, s, ⟨c1, c2⟩ => by
    rw [bld, bld_norm l k a _ c1, bld_norm r k _ _ c2, norm, raise_of_add, raise_add]; congr 1; omega
/-- The join of two trees with so much above them. -/
def join : Tr → Tr → Int → Int → Tr
  | leaf n, leaf m, x, y => leaf (max (x + n) (y + m))
  | leaf n, node m c d, x, y => raise 0 (join (leaf 0) c (x + n) (y + m)) (join (leaf 0) d (x + n) (y + m))
  | node n l r, leaf m, x, y => raise 0 (join l (leaf 0) (x + n) (y + m)) (join r (leaf 0) (x + n) (y + m))
  | node n l r, node m c d, x, y => raise 0 (join l c (x + n) (y + m)) (join r d (x + n) (y + m))
termination_by a b => a.nodes + b.nodes
decreasing_by all_goals (simp only [nodes]; omega)
end Tr
def tl (f : Nat → Bool) : Nat → Bool := fun n => f (n + 1)
def ct (b : Bool) (f : Nat → Bool) : Nat → Bool := fun n => match n with | 0 => b | n + 1 => f n
/-- The count at the point that a path leads to. -/
def den : Tr → (Nat → Bool) → Int
  | .leaf n, _ => n
  | .node n l r, f => n + (if f 0 = true then den r (tl f) else den l (tl f))
theorem den_false (n : Int) (l r : Tr) (f : Nat → Bool) : den (.node n l r) (ct false f) = n + den l f := rfl
theorem den_true (n : Int) (l r : Tr) (f : Nat → Bool) : den (.node n l r) (ct true f) = n + den r f := rfl
theorem den_add (t : Tr) (d : Int) (f : Nat → Bool) : den (t.add d) f = den t f + d := by
  cases t <;> simp only [Tr.add, den] <;> omega
theorem den_raise (n : Int) (a b : Tr) (f : Nat → Bool) : den (Tr.raise n a b) f = n + (if f 0 = true then den b (tl f) else den a (tl f)) := by
  unfold Tr.raise
  split
  · rename_i h
    cases a with
    | leaf x =>
      cases b with
      | leaf y => simp [Tr.alike] at h; subst h; simp [den, Tr.N]
      | node _ _ _ => simp [Tr.alike] at h
    | node _ _ _ => simp [Tr.alike] at h
  · simp only [den, den_add]
    split <;> omega
theorem den_norm : ∀ (t : Tr) (f : Nat → Bool), den t.norm f = den t f
  | .leaf _, _ => rfl
  | .node n l r, f => by rw [Tr.norm, den_raise, den]; rw [den_norm l, den_norm r]
/-- Normal forms. -/
def Nf : Tr → Prop
  | .leaf _ => True
  | .node _ l r => Nf l ∧ Nf r ∧ min l.N r.N = 0 ∧ Tr.alike l r = false
theorem Nf.add {t : Tr} (h : Nf t) (d : Int) : Nf (t.add d) := by cases t <;> exact h
theorem Nf.raise {a b : Tr} (ha : Nf a) (hb : Nf b) (n : Int) : Nf (Tr.raise n a b) := by
  unfold Tr.raise
  split
  · trivial
  · rename_i h
    refine ⟨ha.add _, hb.add _, ?_, ?_⟩
    · rw [Tr.add_N, Tr.add_N]; omega
    · rw [Tr.alike_add]; simpa using h
theorem nf_norm : ∀ t : Tr, Nf t.norm
  | .leaf _ => trivial
  | .node n l r => (nf_norm l).raise (nf_norm r) n
theorem norm_nf : ∀ {t : Tr}, Nf t → t.norm = t
  | .leaf _, _ => rfl
  | .node n l r, ⟨h1, h2, h3, h4⟩ => by
    rw [Tr.norm, norm_nf h1, norm_nf h2]
    unfold Tr.raise
    rw [if_neg (by rw [h4]; decide), h3]
    simp [Tr.add_zero]
theorem Nf.low {t : Tr} (h : Nf t) : ∀ f, t.N ≤ den t f := by
  induction t with
  | leaf n => intro f; exact Int.le_refl _
  | node n l r il ir =>
    intro f
    obtain ⟨h1, h2, h3, _⟩ := h
    have := il h1 (tl f)
    have := ir h2 (tl f)
    simp only [den, Tr.N] at *
    split <;> omega
theorem Nf.low_at {t : Tr} (h : Nf t) : ∃ f, den t f = t.N := by
  induction t with
  | leaf n => exact ⟨fun _ => false, rfl⟩
  | node n l r il ir =>
    obtain ⟨h1, h2, h3, _⟩ := h
    by_cases c : l.N = 0
    · obtain ⟨f, hf⟩ := il h1
      exact ⟨ct false f, by rw [den_false, hf, c]; simp [Tr.N]⟩
    · obtain ⟨f, hf⟩ := ir h2
      exact ⟨ct true f, by rw [den_true, hf, show r.N = 0 by omega]; simp [Tr.N]⟩
theorem Nf.const {t : Tr} (h : Nf t) {c : Int} (hc : ∀ f, den t f = c) : t = .leaf c := by
  induction t generalizing c with
  | leaf n => rw [← hc fun _ => false]; rfl
  | node n l r il ir =>
    obtain ⟨h1, h2, h3, h4⟩ := h
    have e1 := il h1 (c := c - n) fun f => by have := hc (ct false f); rw [den_false] at this; omega
    have e2 := ir h2 (c := c - n) fun f => by have := hc (ct true f); rw [den_true] at this; omega
    rw [e1, e2] at h4
    simp [Tr.alike] at h4
theorem Nf.unique : ∀ {a b : Tr}, Nf a → Nf b → (∀ f, den a f = den b f) → a = b
  | .leaf n, b, _, hb, h => (hb.const fun f => (h f).symm).symm
  | .node n l r, .leaf m, ha, _, h => ha.const fun f => h f
  | .node n l r, .node m c d, ha, hb, h => by
    have hn : n = m := by
      obtain ⟨f, hf⟩ := ha.low_at
      obtain ⟨g, hg⟩ := hb.low_at
      have h1 := ha.low g
      have h2 := hb.low f
      rw [h g, hg] at h1
      rw [← h f, hf] at h2
      simp only [Tr.N] at h1 h2
      omega
    subst hn
    rw [Nf.unique ha.1 hb.1 fun f => by have := h (ct false f); rw [den_false, den_false] at this; omega, Nf.unique ha.2.1 hb.2.1 fun f => by have := h (ct true f); rw [den_true, den_true] at this; omega]
theorem norm_norm (t : Tr) : t.norm.norm = t.norm := norm_nf (nf_norm t)
/-- The least and the greatest count. -/
def low : Tr → Int
  | .leaf n => n
  | .node n l r => n + min (low l) (low r)
def high : Tr → Int
  | .leaf n => n
  | .node n l r => n + max (high l) (high r)
theorem low_le : ∀ (t : Tr) (f : Nat → Bool), low t ≤ den t f
  | .leaf _, _ => Int.le_refl _
  | .node n l r, f => by have := low_le l (tl f); have := low_le r (tl f); simp only [low, den]; split <;> omega
theorem le_high : ∀ (t : Tr) (f : Nat → Bool), den t f ≤ high t
  | .leaf _, _ => Int.le_refl _
  | .node n l r, f => by have := le_high l (tl f); have := le_high r (tl f); simp only [high, den]; split <;> omega
theorem low_at : ∀ t : Tr, ∃ f, den t f = low t
  | .leaf n => ⟨fun _ => false, rfl⟩
  | .node n l r => by
    obtain ⟨f, hf⟩ := low_at l
    obtain ⟨g, hg⟩ := low_at r
    by_cases c : low l ≤ low r
    · exact ⟨ct false f, by rw [den_false, hf, low]; omega⟩
    · exact ⟨ct true g, by rw [den_true, hg, low]; omega⟩
theorem high_at : ∀ t : Tr, ∃ f, den t f = high t
  | .leaf n => ⟨fun _ => false, rfl⟩
  | .node n l r => by
    obtain ⟨f, hf⟩ := high_at l
    obtain ⟨g, hg⟩ := high_at r
    by_cases c : high r ≤ high l
    · exact ⟨ct false f, by rw [den_false, hf, high]; omega⟩
    · exact ⟨ct true g, by rw [den_true, hg, high]; omega⟩
/-- Is the count of a nowhere greater? -/
def leqT : Tr → Tr → Int → Int → Bool
  | .leaf n, b, x, y => decide (x + n ≤ y + low b)
  | .node n l r, .leaf m, x, y => decide (x + high (.node n l r) ≤ y + m)
  | .node n l r, .node m c d, x, y => leqT l c (x + n) (y + m) && leqT r d (x + n) (y + m)
theorem leqT_iff : ∀ (a b : Tr) (x y : Int), leqT a b x y = true ↔ ∀ f, x + den a f ≤ y + den b f
  | .leaf n, b, x, y => by
    simp only [leqT, decide_eq_true_eq, den]
    constructor
    · intro h f; have := low_le b f; omega
    · intro h; obtain ⟨f, hf⟩ := low_at b; have := h f; omega
  | .node n l r, .leaf m, x, y => by
    simp only [leqT, decide_eq_true_eq]
    constructor
    · intro h f; have := le_high (.node n l r) f; simp only [den] at *; omega
    · intro h; obtain ⟨f, hf⟩ := high_at (.node n l r); have := h f; simp only [den] at *; omega
  | .node n l r, .node m c d, x, y => by
    rw [leqT, Bool.and_eq_true_iff, leqT_iff l c, leqT_iff r d]
    constructor
    · rintro ⟨h1, h2⟩ f
      have h1 := h1 (tl f)
      have h2 := h2 (tl f)
      simp only [den]
      split <;> omega
    · intro h
      refine ⟨fun f => ?_, fun f => ?_⟩
      · have := h (ct false f); rw [den_false, den_false] at this; omega
      · have := h (ct true f); rw [den_true, den_true] at this; omega
theorem low_norm (t : Tr) : low t.norm = low t := by
  obtain ⟨f, hf⟩ := low_at t
  obtain ⟨g, hg⟩ := low_at t.norm
  have h1 := low_le t g
  have h2 := low_le t.norm f
  rw [den_norm] at *; omega
/-- Counts within bounds. -/
theorem okc_den : ∀ (t : Tr) (m : Int), t.okc m = true → ∀ f, 0 ≤ den t f ∧ den t f ≤ m
  | .leaf n, m, h, f => by simpa [Tr.okc, den] using h
  | .node n l r, m, h, f => by
    simp only [Tr.okc, Bool.and_eq_true_iff, decide_eq_true_eq] at h
    have := okc_den l _ h.2.1 (tl f)
    have := okc_den r _ h.2.2 (tl f)
    simp only [den]
    split <;> omega
theorem okc_N (t : Tr) (m : Int) (h : t.okc m = true) : 0 ≤ t.N ∧ t.N ≤ m := by
  cases t <;> (simp only [Tr.okc, Bool.and_eq_true_iff, decide_eq_true_eq] at h; simp only [Tr.N]; omega)
theorem Nf.okc : ∀ {t : Tr} {m : Int}, Nf t → 0 ≤ t.N → (∀ f, den t f ≤ m) → t.okc m = true
  | .leaf n, m, _, h0, h => by have := h fun _ => false; simp only [Tr.N, den] at *; simp [Tr.okc]; omega
  | .node n l r, m, hn, h0, h => by
    obtain ⟨f, hf⟩ := hn.low_at
    have h1 := h f
    rw [hf] at h1
    simp only [Tr.N] at h0 h1
    obtain ⟨n1, n2, n3, _⟩ := hn
    simp only [Tr.okc, Bool.and_eq_true_iff, decide_eq_true_eq]
    exact ⟨⟨h0, h1⟩, n1.okc (by omega) fun g => by have := h (ct false g); rw [den_false] at this; omega, n2.okc (by omega) fun g => by have := h (ct true g); rw [den_true] at this; omega⟩
theorem okc_norm {t : Tr} {m : Int} (h : t.okc m = true) : t.norm.okc m = true := by
  have hn := nf_norm t
  obtain ⟨f, hf⟩ := hn.low_at
  refine hn.okc ?_ fun g => ?_
  · rw [← hf, den_norm]; exact (okc_den t m h f).1
  · rw [den_norm]; exact (okc_den t m h g).2
theorem raise_depth (n : Int) (a b : Tr) : (Tr.raise n a b).depth ≤ max a.depth b.depth + 1 := by
  unfold Tr.raise
  split
  · simp [Tr.depth]
  · simp only [Tr.depth, Tr.add_depth]; omega
theorem raise_nodes (n : Int) (a b : Tr) : (Tr.raise n a b).nodes ≤ a.nodes + b.nodes + 1 := by
  unfold Tr.raise
  split
  · simp [Tr.nodes]
  · simp only [Tr.nodes, Tr.add_nodes]; omega
theorem norm_depth : ∀ t : Tr, t.norm.depth ≤ t.depth
  | .leaf _ => Nat.le_refl _
  | .node n l r => by have := norm_depth l; have := norm_depth r; have := raise_depth n l.norm r.norm; simp only [Tr.norm, Tr.depth]; omega
theorem norm_nodes : ∀ t : Tr, t.norm.nodes ≤ t.nodes
  | .leaf _ => Nat.le_refl _
  | .node n l r => by have := norm_nodes l; have := norm_nodes r; have := raise_nodes n l.norm r.norm; simp only [Tr.norm, Tr.nodes]; omega
theorem low_okc {t : Tr} {m : Int} (h : t.okc m = true) : 0 ≤ low t ∧ low t ≤ m := by obtain ⟨f, hf⟩ := low_at t; rw [← hf]; exact okc_den t m h f
theorem high_okc {t : Tr} {m : Int} (h : t.okc m = true) : 0 ≤ high t ∧ high t ≤ m := by obtain ⟨f, hf⟩ := high_at t; rw [← hf]; exact okc_den t m h f

/-- Node by node the same? -/
def eqT : Tr → Tr → Bool
  | .leaf n, .leaf m => decide (n = m)
  | .node n l r, .node m c d => decide (n = m) && (eqT l c && eqT r d)
  | _, _ => false
theorem eqT_iff : ∀ (a b : Tr), eqT a b = true ↔ a = b
  | .leaf n, .leaf m => by simp [eqT]
  | .leaf n, .node m c d => by simp [eqT]
  | .node n l r, .leaf m => by simp [eqT]
  | .node n l r, .node m c d => by simp [eqT, eqT_iff l c, eqT_iff r d]
end Go.Proofs.YtoaglkjpjolacaaGreatDoor.E
namespace Go.Proofs.YtoaglkjpjolacaaGreatDoor.E
open Go.RowKit
def Fo.len : Fo → Nat
  | .nil => 0
  | .cons _ _ rest => rest.len + 1
def Fo.size : Fo → Nat
  | .nil => 0
  | .cons _ ks rest => ks.size + rest.size + 1
def one (n : Int) : List Tr → Option Tr
  | [] => some (.leaf n)
  | [x, y] => some (.node n x y)
  | _ => none
def trees : Fo → Option (List Tr)
  | .nil => some []
  | .cons n ks rest => (trees ks).bind fun k => (one n k).bind fun t => (trees rest).map (t :: ·)
def badN (n : Int) (ks : Fo) (d : Nat) (l m : Int) : Prop := l - 1 < 0 ∨ n < 0 ∨ m < n ∨ (ks.len ≠ 0 ∧ (ks.len ≠ 2 ∨ d = 0))
instance (n : Int) (ks : Fo) (d : Nat) (l m : Int) : Decidable (badN n ks d l m) := by unfold badN; infer_instance
def rightK : Fo → Nat → Int → Int → Int
  | .nil, _, l, _ => l
  | .cons n ks rest, d, l, m =>
    let l1 := if badN n ks d l m then -1 else rightK ks (d - 1) (l - 1) (m - n)
    if l1 < 0 then l1 else rightK rest d l1 m
def rightT (n : Int) (ks : Fo) (d : Nat) (l m : Int) : Int := if badN n ks d l m then -1 else rightK ks (d - 1) (l - 1) (m - n)
theorem rightK_cons (n : Int) (ks rest : Fo) (d : Nat) (l m : Int) : rightK (.cons n ks rest) d l m = if rightT n ks d l m < 0 then rightT n ks d l m else rightK rest d (rightT n ks d l m) m := rfl
theorem trees_len : ∀ (f : Fo) (ts : List Tr), trees f = some ts → ts.length = f.len
  | .nil, ts, h => by simp [trees] at h; subst h; rfl
  | .cons o ks rest, ts, h => by
    simp only [trees] at h
    obtain ⟨k, _, h⟩ := Option.bind_eq_some_iff.1 h
    obtain ⟨t, _, h⟩ := Option.bind_eq_some_iff.1 h
    obtain ⟨r, hr, rfl⟩ := Option.map_eq_some_iff.1 h
    simp [Fo.len, trees_len rest r hr]
/-- Nodes left behind a tree of l, within a depth and a count; below 0: no. -/
def leftOf (t : Option Tr) (d : Nat) (l m : Int) : Int := match t with
  | some t => if (t.depth ≤ d ∧ t.okc m = true) ∧ (t.nodes : Int) ≤ l then l - t.nodes else -1
  | none => -1
def sumN (ts : List Tr) : Nat := (ts.map Tr.nodes).sum
def leftOfs (ts : Option (List Tr)) (d : Nat) (l m : Int) : Int := match ts with
  | some ts => if (∀ t ∈ ts, t.depth ≤ d ∧ t.okc m = true) ∧ (sumN ts : Int) ≤ l then l - sumN ts else -1
  | none => -1
theorem rightT_of (n : Int) (ks : Fo) (d : Nat) (l m : Int) (hl : 0 ≤ l) (ih : ∀ d l m, 0 ≤ l → rightK ks d l m = leftOfs (trees ks) d l m) : rightT n ks d l m = leftOf ((trees ks).bind (one n)) d l m := by
  unfold rightT
  by_cases h0 : l - 1 < 0
  · rw [if_pos (.inl h0)]
    unfold leftOf
    split
    · rename_i t _
      have := t.nodes_pos
      rw [if_neg (by omega)]
    · rfl
  · by_cases hn : n < 0 ∨ m < n
    · rw [if_pos (by unfold badN; omega)]
      unfold leftOf
      split
      · rename_i t ht
        obtain ⟨k, _, hk⟩ := Option.bind_eq_some_iff.1 ht
        have hN : t.N = n := by
          match k, hk with
          | [], hk => simp [one] at hk; subst hk; rfl
          | [x, y], hk => simp [one] at hk; subst hk; rfl
          | [_], hk => simp [one] at hk
          | _ :: _ :: _ :: _, hk => simp [one] at hk
        rw [if_neg]
        rintro ⟨⟨_, ho⟩, _⟩
        have := okc_N t m ho
        omega
      · rfl
    · cases hk : trees ks with
      | none =>
        simp only [Option.bind_none, leftOf]
        split
        · rfl
        · rw [ih _ _ _ (by omega), hk]; rfl
      | some k =>
        have hlen := trees_len ks k hk
        simp only [Option.bind_some]
        match k, hlen with
        | [], hlen =>
          have e : ks.len = 0 := hlen.symm
          rw [if_neg (by unfold badN; omega), ih _ _ _ (by omega), hk]
          have e1 : (Tr.leaf n).okc m = true := by simp [Tr.okc]; omega
          simp [leftOfs, leftOf, one, sumN, Tr.depth, Tr.nodes, e1]
        | [x, y], hlen =>
          have e : ks.len = 2 := hlen.symm
          by_cases hd : d = 0
          · rw [if_pos (by unfold badN; omega)]
            simp [one, leftOf, Tr.depth, hd]
          · rw [if_neg (by unfold badN; omega), ih _ _ _ (by omega), hk]
            have e1 : (∀ t ∈ [x, y], t.depth ≤ d - 1 ∧ t.okc (m - n) = true) ↔ ((Tr.node n x y).depth ≤ d ∧ (Tr.node n x y).okc m = true) := by
              simp only [List.mem_cons, List.not_mem_nil, or_false, forall_eq_or_imp, forall_eq, Tr.depth, Tr.okc, Bool.and_eq_true_iff, decide_eq_true_eq]
              constructor
              · rintro ⟨⟨a, b⟩, c, d⟩; exact ⟨by omega, by omega, b, d⟩
              · rintro ⟨a, _, b, c⟩; exact ⟨⟨by omega, b⟩, by omega, c⟩
            have e2 : ((sumN [x, y] : Nat) : Int) = ((Tr.node n x y).nodes : Int) - 1 := by simp [sumN, Tr.nodes]
            simp only [leftOfs, leftOf, one, e1, e2]
            by_cases hc : ((Tr.node n x y).depth ≤ d ∧ (Tr.node n x y).okc m = true) ∧ ((Tr.node n x y).nodes : Int) ≤ l
            · rw [if_pos ⟨hc.1, by omega⟩, if_pos hc]; omega
            · rw [if_neg (fun h => hc ⟨h.1, by omega⟩), if_neg hc]
        | [_], hlen =>
          have e : ks.len = 1 := hlen.symm
          rw [if_pos (by unfold badN; omega)]; simp [one, leftOf]
        | _ :: _ :: _ :: r, hlen =>
          have e : ks.len = r.length + 3 := by rw [← hlen]; simp
          rw [if_pos (by unfold badN; omega)]; simp [one, leftOf]
theorem rightK_of : ∀ (f : Fo) (d : Nat) (l m : Int), 0 ≤ l → rightK f d l m = leftOfs (trees f) d l m
  | .nil, d, l, m, h => by simp [rightK, trees, leftOfs, sumN, h]
  | .cons o ks rest, d, l, m, h => by
    rw [rightK_cons, rightT_of o ks d l m h (rightK_of ks)]
    have ihr := rightK_of rest d
    cases hk : (trees ks).bind (one o) with
    | none =>
      have : trees (.cons o ks rest) = none := by
        simp only [trees]
        cases ht : trees ks with
        | none => rfl
        | some k => rw [ht, Option.bind_some] at hk; simp [hk]
      rw [this]
      simp [leftOf, leftOfs]
    | some t =>
      have e : trees (.cons o ks rest) = (trees rest).map (t :: ·) := by
        simp only [trees]
        cases ht : trees ks with
        | none => rw [ht] at hk; cases hk
        | some k => rw [ht, Option.bind_some] at hk; simp [hk]
      rw [e]
      have hp := t.nodes_pos
      by_cases hc : (t.depth ≤ d ∧ t.okc m = true) ∧ (t.nodes : Int) ≤ l
      · have hv : leftOf (some t) d l m = l - t.nodes := if_pos hc
        generalize leftOf (some t) d l m = v at *
        subst hv
        rw [if_neg (by omega), ihr _ _ (by omega)]
        cases hr : trees rest with
        | none => rfl
        | some ts =>
          have es : ((sumN (t :: ts) : Nat) : Int) = t.nodes + sumN ts := by simp [sumN]
          have ed : (∀ x ∈ t :: ts, x.depth ≤ d ∧ x.okc m = true) ↔ (∀ x ∈ ts, x.depth ≤ d ∧ x.okc m = true) := by
            simp only [List.mem_cons, forall_eq_or_imp]
            exact ⟨fun h => h.2, fun h => ⟨hc.1, h⟩⟩
          simp only [leftOfs, Option.map_some, es, ed]
          by_cases h2 : (∀ x ∈ ts, x.depth ≤ d ∧ x.okc m = true) ∧ (sumN ts : Int) ≤ l - t.nodes
          · rw [if_pos h2, if_pos ⟨h2.1, by omega⟩]; omega
          · rw [if_neg h2, if_neg (fun h => h2 ⟨h.1, by omega⟩)]
      · have hv : leftOf (some t) d l m = -1 := if_neg hc
        generalize leftOf (some t) d l m = v at *
        subst hv
        rw [if_pos (by decide)]
        cases hr : trees rest with
        | none => rfl
        | some ts =>
          have es : ((sumN (t :: ts) : Nat) : Int) = t.nodes + sumN ts := by simp [sumN]
          simp only [leftOfs, Option.map_some]
          rw [if_neg]
          rintro ⟨h1, h2⟩
          exact hc ⟨h1 t List.mem_cons_self, by omega⟩
theorem rightT_le (n : Int) (ks : Fo) (d : Nat) (l m : Int) (hl : 0 ≤ l) : -1 ≤ rightT n ks d l m ∧ rightT n ks d l m ≤ l := by
  rw [rightT_of n ks d l m hl (rightK_of ks)]
  unfold leftOf
  split
  · split <;> omega
  · omega
/-- The greatest count. -/
def mc : Int := 4611686018427387904
/-- Is a tree right? -/
def okT (t : Tr) : Bool := decide (t.depth ≤ 32) && (t.okc mc && decide (t.nodes ≤ 2047))
theorem okT_iff (t : Tr) : okT t = true ↔ t.depth ≤ 32 ∧ t.okc mc = true ∧ t.nodes ≤ 2047 := by simp [okT]
/-- The right tree that came in, if it is one. -/
def treeOf (n : Int) (ks : Fo) : Option Tr := ((trees ks).bind (one n)).filter okT
theorem rightT_full (n : Int) (ks : Fo) : (0 ≤ rightT n ks 32 2047 mc) = ((treeOf n ks).isSome = true) := by
  rw [rightT_of n ks 32 2047 mc (by decide) (rightK_of ks)]
  unfold treeOf
  cases (trees ks).bind (one n) with
  | none => simp [leftOf, Option.filter]
  | some t =>
    simp only [leftOf, Option.filter]
    by_cases h : (t.depth ≤ 32 ∧ t.okc mc = true) ∧ (t.nodes : Int) ≤ 2047
    · have e : okT t = true := (okT_iff t).2 ⟨h.1.1, h.1.2, by omega⟩
      rw [if_pos h, if_pos e]; simp; omega
    · have e : ¬ okT t = true := fun h2 => h ⟨⟨((okT_iff t).1 h2).1, ((okT_iff t).1 h2).2.1⟩, by have := ((okT_iff t).1 h2).2.2; omega⟩
      rw [if_neg h, if_neg e]; simp

/-- What the program's walk hands on: N, how many kids, depth, what is above. -/
theorem wrap64_id {x : Int} (h1 : -9223372036854775808 ≤ x) (h2 : x ≤ 9223372036854775807) : wrap64 x = x := IntWalk.wrap64_in x ⟨h1, h2⟩
abbrev Key := Int × Nat × Int × Int
def walkK : Fo → Int → Int → List Key
  | .nil, _, _ => []
  | .cons n ks rest, d, s => (n, ks.len, d, s) :: (walkK ks (wrap64 (d + 1)) (wrap64 (s + n)) ++ walkK rest d s)
def walkT (n : Int) (ks : Fo) (d s : Int) : List Key := (n, ks.len, d, s) :: walkK ks (wrap64 (d + 1)) (wrap64 (s + n))
theorem walkK_cons (n : Int) (ks rest : Fo) (d s : Int) : walkK (.cons n ks rest) d s = walkT n ks d s ++ walkK rest d s := rfl
def okN (n : Int) (k : Nat) : Bool := decide (0 ≤ n) && (decide (k = 0) || decide (k = 2))
def fitsB (n d s : Int) : Bool := decide (d ≤ 32) && decide (n ≤ wrap64 (mc - s))
def goodK (k : Key) : Bool := okN k.1 k.2.1 && fitsB k.1 k.2.2.1 k.2.2.2
def okL (l : List Key) : Bool := l.all goodK && decide (l.length ≤ 2047)
def deepB (d s : Int) (t : Tr) : Bool := decide (d + t.depth ≤ 32) && t.okc (mc - s)
def deepOk (d s : Int) : Option (List Tr) → Bool
  | some ts => ts.all (deepB d s)
  | none => false
def deepT (d s : Int) : Option Tr → Bool
  | some t => deepB d s t
  | none => false
theorem one_all (n : Int) (ks : Fo) (d s : Int) (hs : 0 ≤ s) (hs2 : s ≤ mc) : (goodK (n, ks.len, d, s) && deepOk (d + 1) (s + n) (trees ks)) = deepT d s ((trees ks).bind (one n)) := by
  have hm : mc = 4611686018427387904 := rfl
  have hw : wrap64 (mc - s) = mc - s := wrap64_id (by omega) (by omega)
  simp only [goodK, okN, fitsB, hw]
  cases ht : trees ks with
  | none => simp [deepOk, deepT]
  | some ts =>
    have hl := trees_len ks ts ht
    rw [← hl]
    simp only [Option.bind_some]
    match ts with
    | [] =>
      simp only [deepOk, one, deepT, deepB, Tr.depth, Tr.okc, List.length_nil, List.all_nil]
      rw [Bool.eq_iff_iff]
      simp
      omega
    | [x] => simp [one, deepT]
    | [x, y] =>
      have hD : (Tr.node n x y).depth = max x.depth y.depth + 1 := rfl
      simp only [deepOk, one, deepT, deepB, Tr.okc, List.length_cons, List.length_nil, List.all_cons, List.all_nil]
      generalize (Tr.node n x y).depth = D at hD ⊢
      rw [show mc - (s + n) = mc - s - n by omega, Bool.eq_iff_iff]
      simp
      constructor
      · rintro ⟨⟨a, b, c⟩, ⟨d1, e⟩, f, g⟩; exact ⟨by omega, ⟨a, c⟩, e, g⟩
      · rintro ⟨a, ⟨b, c⟩, e, g⟩; exact ⟨⟨b, by omega, c⟩, ⟨by omega, e⟩, by omega, g⟩
    | x :: y :: z :: r => simp [one, deepT]
theorem deep_cons (n : Int) (ks rest : Fo) (d s : Int) : deepOk d s (trees (.cons n ks rest)) = (deepT d s ((trees ks).bind (one n)) && deepOk d s (trees rest)) := by
  simp only [trees]
  cases trees ks with
  | none => simp [deepT, deepOk]
  | some k =>
    simp only [Option.bind_some]
    cases one n k with
    | none => simp [deepT, deepOk]
    | some t =>
      simp only [Option.bind_some, deepT]
      cases trees rest with
      | none => simp [deepOk]
      | some ts => simp [deepOk]
theorem walkK_all : ∀ (f : Fo) (d s : Int), 0 ≤ d → d ≤ 33 → 0 ≤ s → s ≤ mc → (walkK f d s).all goodK = deepOk d s (trees f)
  | .nil, d, s, _, _, _, _ => rfl
  | .cons n ks rest, d, s, h0, h1, h2, h3 => by
    have hm : mc = 4611686018427387904 := rfl
    have ih2 := walkK_all rest d s h0 h1 h2 h3
    rw [deep_cons, ← one_all n ks d s h2 h3]
    simp only [walkK, List.all_cons, List.all_append, ih2]
    by_cases hg : goodK (n, ks.len, d, s) = true
    · have hg2 := hg
      simp only [goodK, okN, fitsB, Bool.and_eq_true_iff, decide_eq_true_eq, wrap64_id (x := mc - s) (by omega) (by omega)] at hg2
      have ih1 := walkK_all ks (d + 1) (s + n) (by omega) (by omega) (by omega) (by omega)
      rw [wrap64_id (x := d + 1) (by omega) (by omega), wrap64_id (x := s + n) (by omega) (by omega), ih1, hg]
      simp
    · simp only [Bool.not_eq_true] at hg
      rw [hg]; simp
theorem one_nodes (n : Int) (ts : List Tr) (t : Tr) (h : one n ts = some t) : t.nodes = sumN ts + 1 := by
  match ts, h with
  | [], h => simp [one] at h; subst h; rfl
  | [x], h => simp [one] at h
  | [x, y], h => simp [one] at h; subst h; simp [Tr.nodes, sumN]
  | x :: y :: z :: r, h => simp [one] at h
theorem walkK_len : ∀ (f : Fo) (ts : List Tr) (d s : Int), trees f = some ts → (walkK f d s).length = sumN ts
  | .nil, ts, d, s, h => by simp [trees] at h; subst h; rfl
  | .cons o ks rest, ts, d, s, h => by
    simp only [trees] at h
    obtain ⟨k, hk, h⟩ := Option.bind_eq_some_iff.1 h
    obtain ⟨t, ht, h⟩ := Option.bind_eq_some_iff.1 h
    obtain ⟨r, hr, rfl⟩ := Option.map_eq_some_iff.1 h
    have i1 := walkK_len ks k (wrap64 (d + 1)) (wrap64 (s + o)) hk
    have i2 := walkK_len rest r d s hr
    have i3 := one_nodes o k t ht
    simp only [walkK, List.length_cons, List.length_append, i1, i2, sumN, List.map_cons, List.sum_cons]
    unfold sumN at i3
    omega
theorem okL_tree (n : Int) (ks : Fo) : okL (walkT n ks 0 0) = (treeOf n ks).isSome := by
  have hm : mc = 4611686018427387904 := rfl
  have h1 : (walkT n ks 0 0).all goodK = deepT 0 0 ((trees ks).bind (one n)) := by
    have := walkK_all (.cons n ks .nil) 0 0 (by decide) (by decide) (by decide) (by decide)
    rw [deep_cons] at this
    simpa [walkK, walkT, trees, deepOk] using this
  unfold okL treeOf
  rw [h1]
  cases hk : trees ks with
  | none => rfl
  | some k =>
    simp only [Option.bind_some]
    cases ho : one n k with
    | none => rfl
    | some t =>
      have hl : (walkT n ks 0 0).length = t.nodes := by
        unfold walkT
        rw [List.length_cons, walkK_len ks k _ _ hk, one_nodes n k t ho]
      rw [hl]
      simp only [deepT, deepB, Option.filter_some]
      by_cases h1 : okT t = true
      · have h2 := (okT_iff t).1 h1
        rw [if_pos h1]; simp [h2]; omega
      · rw [if_neg h1]
        simp only [okT_iff] at h1
        simp
        intro a b
        have : ¬ t.nodes ≤ 2047 := fun c => h1 ⟨by omega, b, c⟩
        omega
/-- A right tree, or none. -/
def fit (t : Tr) : Option Tr := if okT t = true then some t else none
theorem fit_of {t : Tr} (h : okT t = true) : fit t = some t := if_pos h
theorem okT_norm {t : Tr} (h : okT t = true) : okT t.norm = true := by
  have h := (okT_iff t).1 h
  exact (okT_iff _).2 ⟨Nat.le_trans (norm_depth t) h.1, okc_norm h.2.1, Nat.le_trans (norm_nodes t) h.2.2⟩
end Go.Proofs.YtoaglkjpjolacaaGreatDoor.E
