/-
  Plain facts on trees: which are right, their normal form, what ranges mean. No program here.
-/
import Derived.Below
namespace Go.Proofs.Ytkpefelakhbkhaa.I

/-- A right tree's shape. -/
inductive Tr where
  | leaf (o : Bool) : Tr
  | node (l r : Tr) : Tr
/-- Whatever trees came in, one behind the other: the first one's One, its kids, the rest. -/
inductive Fo where
  | nil : Fo
  | cons (o : Bool) (ks rest : Fo) : Fo
namespace Tr
def depth : Tr → Nat
  | leaf _ => 0
  | node l r => max l.depth r.depth + 1
def nodes : Tr → Nat
  | leaf _ => 1
  | node l r => l.nodes + r.nodes + 1
theorem nodes_pos (t : Tr) : 1 ≤ t.nodes := by cases t <;> simp [nodes]
/-- Two kids, put together. -/
def mk2 : Tr → Tr → Tr
  | leaf x, leaf y => if x = y then leaf x else node (leaf x) (leaf y)
  | a, b => node a b
def norm : Tr → Tr
  | leaf o => leaf o
  | node l r => mk2 l.norm r.norm
/-- How many pieces of 2^k a tree has. -/
def meas : Tr → Nat → Nat
  | leaf o, k => if o then 2 ^ k else 0
  | node _ _, 0 => 0
  | node l r, k + 1 => l.meas k + r.meas k
theorem meas_le : ∀ (t : Tr) (k : Nat), t.meas k ≤ 2 ^ k
  | leaf o, k => by cases o <;> simp [meas]
  | node _ _, 0 => by simp [meas]
  | node l r, k + 1 => by
    have := meas_le l k
    have := meas_le r k
    simp only [meas, Nat.pow_succ]; omega
theorem mk2_leaf {a b : Tr} {o : Bool} (h : mk2 a b = leaf o) : a = leaf o ∧ b = leaf o := by
  cases a with
  | leaf x =>
    cases b with
    | leaf y =>
      simp only [mk2] at h
      split at h
      · rename_i e; subst e; exact ⟨h, h⟩
      · cases h
    | node _ _ => simp [mk2] at h
  | node _ _ => cases b <;> simp [mk2] at h
theorem mk2_same (o : Bool) : mk2 (leaf o) (leaf o) = leaf o := by simp [mk2]
theorem meas_zero : ∀ (t : Tr) (k : Nat), t.depth ≤ k → (t.meas k = 0 ↔ t.norm = leaf false)
  | leaf o, k, _ => by cases o <;> simp [meas, norm]
  | node l r, 0, h => by simp [depth] at h
  | node l r, k + 1, h => by
    simp only [depth] at h
    have hl := meas_zero l k (by omega)
    have hr := meas_zero r k (by omega)
    simp only [meas, norm]
    constructor
    · intro e
      rw [hl.1 (by omega), hr.1 (by omega)]; exact mk2_same _
    · intro e
      obtain ⟨e1, e2⟩ := mk2_leaf e
      rw [hl.2 e1, hr.2 e2]
theorem meas_full : ∀ (t : Tr) (k : Nat), t.depth ≤ k → (t.meas k = 2 ^ k ↔ t.norm = leaf true)
  | leaf o, k, _ => by cases o <;> simp [meas, norm]; exact Nat.ne_of_lt (Nat.two_pow_pos k)
  | node l r, 0, h => by simp [depth] at h
  | node l r, k + 1, h => by
    simp only [depth] at h
    have hl := meas_full l k (by omega)
    have hr := meas_full r k (by omega)
    have l1 := meas_le l k
    have l2 := meas_le r k
    simp only [meas, norm, Nat.pow_succ]
    constructor
    · intro e
      rw [hl.1 (by omega), hr.1 (by omega)]; exact mk2_same _
    · intro e
      obtain ⟨e1, e2⟩ := mk2_leaf e
      rw [hl.2 e1, hr.2 e2]; omega
/-- The tree that a measure means. -/
def build (μ : Nat → Nat → Nat) : Nat → Nat → Tr
  | 0, a => if μ a 0 = 0 then leaf false else leaf true
  | k + 1, a => if μ a (k + 1) = 0 then leaf false else if μ a (k + 1) = 2 ^ (k + 1) then leaf true else mk2 (build μ k a) (build μ k (a + 2 ^ k))
/-- A measure says what a tree says. -/
def Cov (μ : Nat → Nat → Nat) : Tr → Nat → Nat → Prop
  | leaf o, k, a => μ a k = if o then 2 ^ k else 0
  | node _ _, 0, _ => False
  | node l r, k + 1, a => Cov μ l k a ∧ Cov μ r k (a + 2 ^ k) ∧ μ a (k + 1) = μ a k + μ (a + 2 ^ k) k
theorem Cov.meas {μ : Nat → Nat → Nat} : ∀ {t : Tr} {k a : Nat}, Cov μ t k a → μ a k = t.meas k
  | leaf o, k, a, h => h
  | node _ _, 0, _, h => h.elim
  | node l r, k + 1, a, ⟨h1, h2, h3⟩ => by rw [h3, h1.meas, h2.meas]; rfl
theorem Cov.depth {μ : Nat → Nat → Nat} : ∀ {t : Tr} {k a : Nat}, Cov μ t k a → t.depth ≤ k
  | leaf o, k, a, h => by simp [Tr.depth]
  | node _ _, 0, _, h => h.elim
  | node l r, k + 1, a, ⟨h1, h2, h3⟩ => by have := h1.depth; have := h2.depth; simp only [Tr.depth]; omega
theorem build_norm {μ : Nat → Nat → Nat} : ∀ (t : Tr) (k a : Nat), Cov μ t k a → build μ k a = t.norm
  | leaf o, 0, a, h => by cases o <;> simp [build, show μ a 0 = _ from h, norm]
  | leaf o, k + 1, a, h => by
    have hp := Nat.two_pow_pos (k + 1)
    cases o
    · simp [build, show μ a (k + 1) = _ from h, norm]
    · have e : μ a (k + 1) = 2 ^ (k + 1) := h
      simp only [build, e, norm]
      rw [if_neg (by omega), if_pos trivial]
  | node _ _, 0, _, h => h.elim
  | node l r, k + 1, a, h => by
    have hm := h.meas
    have hd := h.depth
    obtain ⟨h1, h2, h3⟩ := h
    simp only [build, norm]
    rw [build_norm l k a h1, build_norm r k (a + 2 ^ k) h2]
    by_cases h0 : μ a (k + 1) = 0
    · rw [if_pos h0]
      exact ((meas_zero (node l r) (k + 1) hd).1 (by rw [← hm]; exact h0)).symm
    · rw [if_neg h0]
      by_cases hf : μ a (k + 1) = 2 ^ (k + 1)
      · rw [if_pos hf]
        exact ((meas_full (node l r) (k + 1) hd).1 (by rw [← hm]; exact hf)).symm
      · rw [if_neg hf]
theorem build_congr {μ ν : Nat → Nat → Nat} : ∀ (k a : Nat), (∀ j b, a ≤ b → b + 2 ^ j ≤ a + 2 ^ k → μ b j = ν b j) → build μ k a = build ν k a
  | 0, a, h => by simp only [build, h 0 a (Nat.le_refl _) (Nat.le_refl _)]
  | k + 1, a, h => by
    have hp := Nat.two_pow_pos k
    simp only [build, h (k + 1) a (Nat.le_refl _) (Nat.le_refl _)]
    rw [build_congr k a fun j b h1 h2 => h j b h1 (by rw [Nat.pow_succ]; omega), build_congr k (a + 2 ^ k) fun j b h1 h2 => h j b (by omega) (by rw [Nat.pow_succ]; omega)]
end Tr

/-- What lies of a range within another one; of all ranges of a list. -/
def clip (r : Nat × Nat) (a n : Nat) : Nat := min r.2 (a + n) - max r.1 a
def mass (l : List (Nat × Nat)) (a n : Nat) : Nat := (l.map fun r => clip r a n).sum
def mu (l : List (Nat × Nat)) (a k : Nat) : Nat := mass l a (2 ^ k)
theorem mass_nil (a n : Nat) : mass [] a n = 0 := rfl
theorem mass_cons (r : Nat × Nat) (l : List (Nat × Nat)) (a n : Nat) : mass (r :: l) a n = clip r a n + mass l a n := by simp [mass]
theorem mass_append (l m : List (Nat × Nat)) (a n : Nat) : mass (l ++ m) a n = mass l a n + mass m a n := by simp [mass]
theorem clip_two (r : Nat × Nat) (a n : Nat) : clip r a (n * 2) = clip r a n + clip r (a + n) n := by unfold clip; omega
theorem mass_two (l : List (Nat × Nat)) (a n : Nat) : mass l a (n * 2) = mass l a n + mass l (a + n) n := by
  induction l with
  | nil => rfl
  | cons r l ih => rw [mass_cons, mass_cons, mass_cons, ih, clip_two]; omega
theorem mu_two (l : List (Nat × Nat)) (a k : Nat) : mu l a (k + 1) = mu l a k + mu l (a + 2 ^ k) k := by unfold mu; rw [Nat.pow_succ]; exact mass_two l a (2 ^ k)
/-- The ranges of a tree. -/
def ranges : Tr → Nat → Nat → List (Nat × Nat)
  | .leaf o, a, n => if o then [(a, a + n)] else []
  | .node l r, a, n => ranges l a (n / 2) ++ ranges r (a + n / 2) (n / 2)
theorem ranges_in : ∀ (t : Tr) (k a : Nat), t.depth ≤ k → ∀ r ∈ ranges t a (2 ^ k), a ≤ r.1 ∧ r.2 ≤ a + 2 ^ k
  | .leaf o, k, a, _, r, hr => by
    cases o
    · simp [ranges] at hr
    · simp [ranges] at hr; subst hr; simp
  | .node _ _, 0, _, h, _, _ => by simp [Tr.depth] at h
  | .node l r, k + 1, a, h, x, hx => by
    simp only [Tr.depth] at h
    have hp := Nat.two_pow_pos k
    simp only [ranges, show 2 ^ (k + 1) / 2 = 2 ^ k by rw [Nat.pow_succ]; omega] at hx
    rw [Nat.pow_succ]
    rcases List.mem_append.1 hx with hx | hx
    · have := ranges_in l k a (by omega) x hx; omega
    · have := ranges_in r k (a + 2 ^ k) (by omega) x hx; omega
theorem mass_out (l : List (Nat × Nat)) (a n b m : Nat) (h : ∀ r ∈ l, b ≤ r.1 ∧ r.2 ≤ b + m) (ho : a + n ≤ b ∨ b + m ≤ a) : mass l a n = 0 := by
  induction l with
  | nil => rfl
  | cons r l ih =>
    rw [mass_cons, ih fun x hx => h x (List.mem_cons_of_mem _ hx)]
    have := h r List.mem_cons_self
    unfold clip; omega
/-- A list that says within a range what a tree's ranges say. -/
theorem cov_ranges (l : List (Nat × Nat)) : ∀ (t : Tr) (k a : Nat), t.depth ≤ k → (∀ j b, a ≤ b → b + 2 ^ j ≤ a + 2 ^ k → mu l b j = mu (ranges t a (2 ^ k)) b j) → Tr.Cov (mu l) t k a
  | .leaf o, k, a, _, h => by
    show mu l a k = _
    rw [h k a (Nat.le_refl _) (Nat.le_refl _)]
    cases o
    · simp [ranges, mu, mass_nil]
    · simp [ranges, mu, mass_cons, mass_nil, clip]
  | .node _ _, 0, _, h, _ => by simp [Tr.depth] at h
  | .node x y, k + 1, a, hd, h => by
    simp only [Tr.depth] at hd
    have hp := Nat.two_pow_pos k
    have e2 : 2 ^ (k + 1) / 2 = 2 ^ k := by rw [Nat.pow_succ]; omega
    simp only [ranges, e2] at h
    refine ⟨cov_ranges l x k a (by omega) fun j b h1 h2 => ?_, cov_ranges l y k (a + 2 ^ k) (by omega) fun j b h1 h2 => ?_, mu_two l a k⟩
    · rw [h j b h1 (by rw [Nat.pow_succ]; omega)]
      unfold mu
      rw [mass_append, mass_out (ranges y (a + 2 ^ k) (2 ^ k)) b (2 ^ j) (a + 2 ^ k) (2 ^ k) (ranges_in y k (a + 2 ^ k) (by omega)) (.inl h2)]
      rfl
    · rw [h j b (by omega) (by rw [Nat.pow_succ]; omega)]
      unfold mu
      rw [mass_append, mass_out (ranges x a (2 ^ k)) b (2 ^ j) a (2 ^ k) (ranges_in x k a (by omega)) (.inr h1), Nat.zero_add]
theorem build_ranges (t : Tr) (k a : Nat) (h : t.depth ≤ k) : Tr.build (mu (ranges t a (2 ^ k))) k a = t.norm := Tr.build_norm t k a (cov_ranges _ t k a h fun _ _ _ _ => rfl)
/-- Ranges cut to a range. -/
def cutR (r : Nat × Nat) (a n : Nat) : Nat × Nat := (max r.1 a, min r.2 (a + n))
def withinL (l : List (Nat × Nat)) (a n : Nat) : List (Nat × Nat) := (l.map fun r => cutR r a n).filter fun r => decide (r.1 < r.2)
theorem mass_within (l : List (Nat × Nat)) (a n b m : Nat) (h1 : a ≤ b) (h2 : b + m ≤ a + n) : mass (withinL l a n) b m = mass l b m := by
  induction l with
  | nil => rfl
  | cons r l ih =>
    have e : withinL (r :: l) a n = (if (cutR r a n).1 < (cutR r a n).2 then [cutR r a n] else []) ++ withinL l a n := by
      unfold withinL
      rw [List.map_cons, List.filter_cons]
      by_cases h : (cutR r a n).1 < (cutR r a n).2 <;> simp [h]
    rw [e, mass_append, mass_cons, ih]
    congr 1
    by_cases h : (cutR r a n).1 < (cutR r a n).2
    · rw [if_pos h, mass_cons, mass_nil]
      unfold cutR at h ⊢
      unfold clip
      simp only at h ⊢
      omega
    · rw [if_neg h, mass_nil]
      unfold cutR at h
      unfold clip
      simp only at h
      omega
theorem mass_sum (l : List (Nat × Nat)) (a n : Nat) : mass (withinL l a n) a n = ((withinL l a n).map fun r => r.2 - r.1).sum := by
  unfold mass
  congr 1
  refine List.map_congr_left fun r hr => ?_
  unfold withinL at hr
  obtain ⟨h1, _⟩ := List.mem_filter.1 hr
  obtain ⟨x, _, rfl⟩ := List.mem_map.1 h1
  unfold clip cutR
  simp only
  omega

/-- How many trees; whether they are right in shape; how many nodes are left of l behind them; below 0: no. -/
def Fo.len : Fo → Nat
  | .nil => 0
  | .cons _ _ rest => rest.len + 1
def one (o : Bool) : List Tr → Option Tr
  | [] => some (.leaf o)
  | [x, y] => if o = true then none else some (.node x y)
  | _ => none
def trees : Fo → Option (List Tr)
  | .nil => some []
  | .cons o ks rest => (trees ks).bind fun k => (one o k).bind fun t => (trees rest).map (t :: ·)
def rightK : Fo → Nat → Int → Int
  | .nil, _, l => l
  | .cons o ks rest, d, l =>
    let l1 := if l - 1 < 0 ∨ (ks.len ≠ 0 ∧ (ks.len ≠ 2 ∨ o = true ∨ d = 0)) then -1 else rightK ks (d - 1) (l - 1)
    if l1 < 0 then l1 else rightK rest d l1
def rightT (o : Bool) (ks : Fo) (d : Nat) (l : Int) : Int := if l - 1 < 0 ∨ (ks.len ≠ 0 ∧ (ks.len ≠ 2 ∨ o = true ∨ d = 0)) then -1 else rightK ks (d - 1) (l - 1)
theorem rightK_cons (o : Bool) (ks rest : Fo) (d : Nat) (l : Int) : rightK (.cons o ks rest) d l = if rightT o ks d l < 0 then rightT o ks d l else rightK rest d (rightT o ks d l) := rfl
theorem trees_len : ∀ (f : Fo) (ts : List Tr), trees f = some ts → ts.length = f.len
  | .nil, ts, h => by simp [trees] at h; subst h; rfl
  | .cons o ks rest, ts, h => by
    simp only [trees] at h
    obtain ⟨k, _, h⟩ := Option.bind_eq_some_iff.1 h
    obtain ⟨t, _, h⟩ := Option.bind_eq_some_iff.1 h
    obtain ⟨r, hr, rfl⟩ := Option.map_eq_some_iff.1 h
    simp [Fo.len, trees_len rest r hr]
/-- Nodes left behind a tree of l, within a depth; below 0: no. -/
def leftOf (t : Option Tr) (d : Nat) (l : Int) : Int := match t with
  | some t => if t.depth ≤ d ∧ (t.nodes : Int) ≤ l then l - t.nodes else -1
  | none => -1
def sumN (ts : List Tr) : Nat := (ts.map Tr.nodes).sum
def leftOfs (ts : Option (List Tr)) (d : Nat) (l : Int) : Int := match ts with
  | some ts => if (∀ t ∈ ts, t.depth ≤ d) ∧ (sumN ts : Int) ≤ l then l - sumN ts else -1
  | none => -1
theorem rightT_of (o : Bool) (ks : Fo) (d : Nat) (l : Int) (hl : 0 ≤ l) (ih : ∀ d l, 0 ≤ l → rightK ks d l = leftOfs (trees ks) d l) : rightT o ks d l = leftOf ((trees ks).bind (one o)) d l := by
  unfold rightT
  by_cases h0 : l - 1 < 0
  · rw [if_pos (.inl h0)]
    unfold leftOf
    split
    · rename_i t _
      have := t.nodes_pos
      rw [if_neg (by omega)]
    · rfl
  · cases hk : trees ks with
    | none =>
      simp only [Option.bind_none, leftOf]
      split
      · rfl
      · rw [ih _ _ (by omega), hk]; rfl
    | some k =>
      have hlen := trees_len ks k hk
      simp only [Option.bind_some]
      match k, hlen with
      | [], hlen =>
        have e : ks.len = 0 := hlen.symm
        rw [if_neg (by rw [e]; omega), ih _ _ (by omega), hk]
        simp [leftOfs, leftOf, one, sumN, Tr.depth, Tr.nodes]
      | [x, y], hlen =>
        have e : ks.len = 2 := hlen.symm
        cases o with
        | true => rw [if_pos (by rw [e]; simp)]; simp [one, leftOf]
        | false =>
          by_cases hd : d = 0
          · rw [if_pos (by rw [e]; simp [hd])]
            simp [one, leftOf, Tr.depth, hd]
          · rw [if_neg (by rw [e]; simp [hd]; omega), ih _ _ (by omega), hk]
            have e1 : (∀ t ∈ [x, y], t.depth ≤ d - 1) ↔ (Tr.node x y).depth ≤ d := by
              simp only [List.mem_cons, List.not_mem_nil, or_false, forall_eq_or_imp, forall_eq, Tr.depth]; omega
            have e2 : ((sumN [x, y] : Nat) : Int) = ((Tr.node x y).nodes : Int) - 1 := by simp [sumN, Tr.nodes]
            simp only [leftOfs, leftOf, one, e1, e2, Bool.false_eq_true, if_false]
            by_cases hc : (Tr.node x y).depth ≤ d ∧ ((Tr.node x y).nodes : Int) ≤ l
            · rw [if_pos ⟨hc.1, by omega⟩, if_pos hc]; omega
            · rw [if_neg (fun h => hc ⟨h.1, by omega⟩), if_neg hc]
      | [_], hlen =>
        have e : ks.len = 1 := hlen.symm
        rw [if_pos (by rw [e]; simp)]; simp [one, leftOf]
      | _ :: _ :: _ :: r, hlen =>
        have e : ks.len = r.length + 3 := by rw [← hlen]; simp
        rw [if_pos (by rw [e]; right; omega)]; simp [one, leftOf]
theorem rightK_of : ∀ (f : Fo) (d : Nat) (l : Int), 0 ≤ l → rightK f d l = leftOfs (trees f) d l
  | .nil, d, l, h => by simp [rightK, trees, leftOfs, sumN, h]
  | .cons o ks rest, d, l, h => by
    rw [rightK_cons, rightT_of o ks d l h (rightK_of ks)]
    have ihr := rightK_of rest d
    cases hk : (trees ks).bind (one o) with
    | none =>
      have : trees (.cons o ks rest) = none := by
        simp only [trees]
        cases ht : trees ks with
        | none => rfl
        | some k => rw [ht, Option.bind_some] at hk; simp [hk]
      rw [this]
      simp [leftOf, leftOfs]
    | some t =>
      have e : trees (.cons o ks rest) = (trees rest).map (t :: ·) := by
        simp only [trees]
        cases ht : trees ks with
        | none => rw [ht] at hk; cases hk
        | some k => rw [ht, Option.bind_some] at hk; simp [hk]
      rw [e]
      have hp := t.nodes_pos
      by_cases hc : t.depth ≤ d ∧ (t.nodes : Int) ≤ l
      · have hv : leftOf (some t) d l = l - t.nodes := if_pos hc
        generalize leftOf (some t) d l = v at *
        subst hv
        rw [if_neg (by omega), ihr _ (by omega)]
        cases hr : trees rest with
        | none => rfl
        | some ts =>
          have es : ((sumN (t :: ts) : Nat) : Int) = t.nodes + sumN ts := by simp [sumN]
          have ed : (∀ x ∈ t :: ts, x.depth ≤ d) ↔ (∀ x ∈ ts, x.depth ≤ d) := by
            simp only [List.mem_cons, forall_eq_or_imp]
            exact ⟨fun h => h.2, fun h => ⟨hc.1, h⟩⟩
          simp only [leftOfs, Option.map_some, es, ed]
          by_cases h2 : (∀ x ∈ ts, x.depth ≤ d) ∧ (sumN ts : Int) ≤ l - t.nodes
          · rw [if_pos h2, if_pos ⟨h2.1, by omega⟩]; omega
          · rw [if_neg h2, if_neg (fun h => h2 ⟨h.1, by omega⟩)]
      · have hv : leftOf (some t) d l = -1 := if_neg hc
        generalize leftOf (some t) d l = v at *
        subst hv
        rw [if_pos (by decide)]
        cases hr : trees rest with
        | none => rfl
        | some ts =>
          have es : ((sumN (t :: ts) : Nat) : Int) = t.nodes + sumN ts := by simp [sumN]
          simp only [leftOfs, Option.map_some]
          rw [if_neg]
          rintro ⟨h1, h2⟩
          exact hc ⟨h1 t List.mem_cons_self, by omega⟩
/-- The right tree that came in, if it is one. -/
def treeOf (o : Bool) (ks : Fo) : Option Tr := ((trees ks).bind (one o)).filter fun t => decide (t.depth ≤ 32) && decide (t.nodes ≤ 2047)
theorem rightT_full (o : Bool) (ks : Fo) : (0 ≤ rightT o ks 32 2047) = ((treeOf o ks).isSome = true) := by
  rw [rightT_of o ks 32 2047 (by decide) (rightK_of ks)]
  unfold treeOf
  cases (trees ks).bind (one o) with
  | none => simp [leftOf, Option.filter]
  | some t =>
    simp only [leftOf, Option.filter]
    by_cases h : t.depth ≤ 32 ∧ (t.nodes : Int) ≤ 2047
    · have e : (decide (t.depth ≤ 32) && decide (t.nodes ≤ 2047)) = true := by simp; omega
      rw [if_pos h, if_pos e]; simp; omega
    · have e : ¬ (decide (t.depth ≤ 32) && decide (t.nodes ≤ 2047)) = true := by simp; intro h1; have : ¬ ((t.nodes : Int) ≤ 2047) := fun h2 => h ⟨h1, h2⟩; omega
      rw [if_neg h, if_neg e]; simp
end Go.Proofs.Ytkpefelakhbkhaa.I
