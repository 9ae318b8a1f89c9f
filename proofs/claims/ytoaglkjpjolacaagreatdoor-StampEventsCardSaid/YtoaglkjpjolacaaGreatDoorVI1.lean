/-
  Plain facts on trees: which are right, their normal form, what ranges mean. No program here.
-/
import Derived.Below
import Derived.Test.YtoaglkjpjolacaaGreatDoorProg
import Derived.WalkKit
import Derived.WalkSpells
import Derived.WalkLawsBesides
import Derived.LoopTactic
import Derived.Laws.ShiftsVar
import Derived.Laws.BitsAllLaws
import Derived.Lib.Hide
import Derived.Deep.LoopGhost
import Derived.IntWalk
import Derived.Deep.OwnRows
import Derived.Deep.DeepAppendWide
import Derived.Laws.CopyOwn
import Derived.Laws.OwnMore
import Derived.Deep.RegionWith
import Derived.Deep.RegionHeld
import Derived.Deep.QuietTactic
import Derived.StillTailTactics
namespace Go.Proofs.YtoaglkjpjolacaaGreatDoor.I
/-- A right tree's shape. -/
inductive Tr where
  | leaf (o : Bool) : Tr
  | node (l r : Tr) : Tr
/-- Whatever trees came in, one behind the other: the first one's One, its kids, the rest. -/
inductive Fo where
  | nil : Fo
  | cons (o : Bool) (ks rest : Fo) : Fo
namespace Tr
def depth : Tr → Nat
  | leaf _ => 0
  | node l r => max l.depth r.depth + 1
def nodes : Tr → Nat
  | leaf _ => 1
  | node l r => l.nodes + r.nodes + 1
theorem nodes_pos (t : Tr) : 1 ≤ t.nodes := by cases t <;> simp [nodes]
/-- Two kids, put together. -/
def mk2 : Tr → Tr → Tr
  | leaf x, leaf y => if x = y then leaf x else node (leaf x) (leaf y)
  | a, b => node a b
def norm : Tr → Tr
  | leaf o => leaf o
  | node l r => mk2 l.norm r.norm
/-- How many pieces of 2^k a tree has. -/
def meas : Tr → Nat → Nat
  | leaf o, k => if o then 2 ^ k else 0
  | node _ _, 0 => 0
  | node l r, k + 1 => l.meas k + r.meas k
theorem meas_le : ∀ (t : Tr) (k : Nat), t.meas k ≤ 2 ^ k
  | leaf o, k => by cases o <;> simp [meas]
  | node _ _, 0 => by simp [meas]
  | node l r, k + 1 => by
    have := meas_le l k
    have := meas_le r k
    simp only [meas, Nat.pow_succ]; omega
theorem mk2_leaf {a b : Tr} {o : Bool} (h : mk2 a b = leaf o) : a = leaf o ∧ b = leaf o := by
  cases a with
  | leaf x =>
    cases b with
    | leaf y =>
      simp only [mk2] at h
      split at h
      · rename_i e; subst e; exact ⟨h, h⟩
      · cases h
    | node _ _ => simp [mk2] at h
  | node _ _ => cases b <;> simp [mk2] at h
theorem mk2_same (o : Bool) : mk2 (leaf o) (leaf o) = leaf o := by simp [mk2]
theorem meas_zero : ∀ (t : Tr) (k : Nat), t.depth ≤ k → (t.meas k = 0 ↔ t.norm = leaf false)
  | leaf o, k, _ => by cases o <;> simp [meas, norm]
  | node l r, 0, h => by simp [depth] at h
  | node l r, k + 1, h => by
    simp only [depth] at h
    have hl := meas_zero l k (by omega)
    have hr := meas_zero r k (by omega)
    simp only [meas, norm]
    constructor
    · intro e
      rw [hl.1 (by omega), hr.1 (by omega)]; exact mk2_same _
    · intro e
      obtain ⟨e1, e2⟩ := mk2_leaf e
      rw [hl.2 e1, hr.2 e2]
theorem meas_full : ∀ (t : Tr) (k : Nat), t.depth ≤ k → (t.meas k = 2 ^ k ↔ t.norm = leaf true)
  | leaf o, k, _ => by cases o <;> simp [meas, norm]; exact Nat.ne_of_lt (Nat.two_pow_pos k)
  | node l r, 0, h => by simp [depth] at h
  | node l r, k + 1, h => by
    simp only [depth] at h
    have hl := meas_full l k (by omega)
    have hr := meas_full r k (by omega)
    have l1 := meas_le l k
    have l2 := meas_le r k
    simp only [meas, norm, Nat.pow_succ]
    constructor
    · intro e
      rw [hl.1 (by omega), hr.1 (by omega)]; exact mk2_same _
    · intro e
      obtain ⟨e1, e2⟩ := mk2_leaf e
      rw [hl.2 e1, hr.2 e2]; omega
/-- The tree that a measure means. -/
def build (μ : Nat → Nat → Nat) : Nat → Nat → Tr
  | 0, a => if μ a 0 = 0 then leaf false else leaf true
  | k + 1, a => if μ a (k + 1) = 0 then leaf false else if μ a (k + 1) = 2 ^ (k + 1) then leaf true else mk2 (build μ k a) (build μ k (a + 2 ^ k))
/-- A measure says what a tree says. -/
def Cov (μ : Nat → Nat → Nat) : Tr → Nat → Nat → Prop
  | leaf o, k, a => μ a k = if o then 2 ^ k else 0
  | node _ _, 0, _ => False
  | node l r, k + 1, a => Cov μ l k a ∧ Cov μ r k (a + 2 ^ k) ∧ μ a (k + 1) = μ a k + μ (a + 2 ^ k) k
theorem Cov.meas {μ : Nat → Nat → Nat} : ∀ {t : Tr} {k a : Nat}, Cov μ t k a → μ a k = t.meas k
  | leaf o, k, a, h => h
  | node _ _, 0, _, h => h.elim
  | node l r, k + 1, a, ⟨h1, h2, h3⟩ => by rw [h3, h1.meas, h2.meas]; rfl
theorem Cov.depth {μ : Nat → Nat → Nat} : ∀ {t : Tr} {k a : Nat}, Cov μ t k a → t.depth ≤ k
  | leaf o, k, a, h => by simp [Tr.depth]
  | node _ _, 0, _, h => h.elim
  | node l r, k + 1, a, ⟨h1, h2, h3⟩ => by have := h1.depth; have := h2.depth; simp only [Tr.depth]; omega
theorem build_norm {μ : Nat → Nat → Nat} : ∀ (t : Tr) (k a : Nat), Cov μ t k a → build μ k a = t.norm
  | leaf o, 0, a, h => by cases o <;> simp [build, show μ a 0 = _ from h, norm]
  | leaf o, k + 1, a, h => by
    have hp := Nat.two_pow_pos (k + 1)
    cases o
    · simp [build, show μ a (k + 1) = _ from h, norm]
    · have e : μ a (k + 1) = 2 ^ (k + 1) := h
      simp only [build, e, norm]
      rw [if_neg (by omega), if_pos trivial]
  | node _ _, 0, _, h => h.elim
  | node l r, k + 1, a, h => by
    have hm := h.meas
    have hd := h.depth
    obtain ⟨h1, h2, h3⟩ := h
    simp only [build, norm]
    rw [build_norm l k a h1, build_norm r k (a + 2 ^ k) h2]
    by_cases h0 : μ a (k + 1) = 0
    · rw [if_pos h0]
      exact ((meas_zero (node l r) (k + 1) hd).1 (by rw [← hm]; exact h0)).symm
    · rw [if_neg h0]
      by_cases hf : μ a (k + 1) = 2 ^ (k + 1)
      · rw [if_pos hf]
        exact ((meas_full (node l r) (k + 1) hd).1 (by rw [← hm]; exact hf)).symm
      · rw [if_neg hf]
theorem build_congr {μ ν : Nat → Nat → Nat} : ∀ (k a : Nat), (∀ j b, a ≤ b → b + 2 ^ j ≤ a + 2 ^ k → μ b j = ν b j) → build μ k a = build ν k a
  | 0, a, h => by simp only [build, h 0 a (Nat.le_refl _) (Nat.le_refl _)]
  | k + 1, a, h => by
    have hp := Nat.two_pow_pos k
    simp only [build, h (k + 1) a (Nat.le_refl _) (Nat.le_refl _)]
    rw [build_congr k a fun j b h1 h2 => h j b h1 (by rw [Nat.pow_succ]; omega), build_congr k (a + 2 ^ k) fun j b h1 h2 => h j b (by omega) (by rw [Nat.pow_succ]; omega)]
end Tr
/-- What lies of a range within another one; of all ranges of a list. -/
def clip (r : Nat × Nat) (a n : Nat) : Nat := min r.2 (a + n) - max r.1 a
def mass (l : List (Nat × Nat)) (a n : Nat) : Nat := (l.map fun r => clip r a n).sum
def mu (l : List (Nat × Nat)) (a k : Nat) : Nat := mass l a (2 ^ k)
theorem mass_nil (a n : Nat) : mass [] a n = 0 := rfl
theorem mass_cons (r : Nat × Nat) (l : List (Nat × Nat)) (a n : Nat) : mass (r :: l) a n = clip r a n + mass l a n := by simp [mass]
theorem mass_append (l m : List (Nat × Nat)) (a n : Nat) : mass (l ++ m) a n = mass l a n + mass m a n := by simp [mass]
theorem clip_two (r : Nat × Nat) (a n : Nat) : clip r a (n * 2) = clip r a n + clip r (a + n) n := by unfold clip; omega
theorem mass_two (l : List (Nat × Nat)) (a n : Nat) : mass l a (n * 2) = mass l a n + mass l (a + n) n := by
  induction l with
  | nil => rfl
  | cons r l ih => rw [mass_cons, mass_cons, mass_cons, ih, clip_two]; omega
theorem mu_two (l : List (Nat × Nat)) (a k : Nat) : mu l a (k + 1) = mu l a k + mu l (a + 2 ^ k) k := by unfold mu; rw [Nat.pow_succ]; exact mass_two l a (2 ^ k)
/-- The ranges of a tree. -/
def ranges : Tr → Nat → Nat → List (Nat × Nat)
  | .leaf o, a, n => if o then [(a, a + n)] else []
  | .node l r, a, n => ranges l a (n / 2) ++ ranges r (a + n / 2) (n / 2)
theorem ranges_in : ∀ (t : Tr) (k a : Nat), t.depth ≤ k → ∀ r ∈ ranges t a (2 ^ k), a ≤ r.1 ∧ r.2 ≤ a + 2 ^ k
  | .leaf o, k, a, _, r, hr => by
    cases o
    · simp [ranges] at hr
    · simp [ranges] at hr; subst hr; simp
  | .node _ _, 0, _, h, _, _ => by simp [Tr.depth] at h
  | .node l r, k + 1, a, h, x, hx => by
    simp only [Tr.depth] at h
    have hp := Nat.two_pow_pos k
    simp only [ranges, show 2 ^ (k + 1) / 2 = 2 ^ k by rw [Nat.pow_succ]; omega] at hx
    rw [Nat.pow_succ]
    rcases List.mem_append.1 hx with hx | hx
    · have := ranges_in l k a (by omega) x hx; omega
    · have := ranges_in r k (a + 2 ^ k) (by omega) x hx; omega
theorem mass_out (l : List (Nat × Nat)) (a n b m : Nat) (h : ∀ r ∈ l, b ≤ r.1 ∧ r.2 ≤ b + m) (ho : a + n ≤ b ∨ b + m ≤ a) : mass l a n = 0 := by
  induction l with
  | nil => rfl
  | cons r l ih =>
    rw [mass_cons, ih fun x hx => h x (List.mem_cons_of_mem _ hx)]
    have := h r List.mem_cons_self
    unfold clip; omega
/-- A list that says within a range what a tree's ranges say. -/
theorem cov_ranges (l : List (Nat × Nat)) : ∀ (t : Tr) (k a : Nat), t.depth ≤ k → (∀ j b, a ≤ b → b + 2 ^ j ≤ a + 2 ^ k → mu l b j = mu (ranges t a (2 ^ k)) b j) → Tr.Cov (mu l) t k a
  | .leaf o, k, a, _, h => by
    show mu l a k = _
    rw [h k a (Nat.le_refl _) (Nat.le_refl _)]
    cases o
    · simp [ranges, mu, mass_nil]
    · simp [ranges, mu, mass_cons, mass_nil, clip]
  | .node _ _, 0, _, h, _ => by simp [Tr.depth] at h
  | .node x y, k + 1, a, hd, h => by
    simp only [Tr.depth] at hd
    have hp := Nat.two_pow_pos k
    have e2 : 2 ^ (k + 1) / 2 = 2 ^ k := by rw [Nat.pow_succ]; omega
    simp only [ranges, e2] at h
    refine ⟨cov_ranges l x k a (by omega) fun j b h1 h2 => ?_, cov_ranges l y k (a + 2 ^ k) (by omega) fun j b h1 h2 => ?_, mu_two l a k⟩
    · rw [h j b h1 (by rw [Nat.pow_succ]; omega)]
      unfold mu
      rw [mass_append, mass_out (ranges y (a + 2 ^ k) (2 ^ k)) b (2 ^ j) (a + 2 ^ k) (2 ^ k) (ranges_in y k (a + 2 ^ k) (by omega)) (.inl h2)]
      rfl
    · rw [h j b (by omega) (by rw [Nat.pow_succ]; omega)]
      unfold mu
      rw [mass_append, mass_out (ranges x a (2 ^ k)) b (2 ^ j) a (2 ^ k) (ranges_in x k a (by omega)) (.inr h1), Nat.zero_add]
theorem build_ranges (t : Tr) (k a : Nat) (h : t.depth ≤ k) : Tr.build (mu (ranges t a (2 ^ k))) k a = t.norm := Tr.build_norm t k a (cov_ranges _ t k a h fun _ _ _ _ => rfl)
/-- Ranges cut to a range. -/
def cutR (r : Nat × Nat) (a n : Nat) : Nat × Nat := (max r.1 a, min r.2 (a + n))
def withinL (l : List (Nat × Nat)) (a n : Nat) : List (Nat × Nat) := (l.map fun r => cutR r a n).filter fun r => decide (r.1 < r.2)
theorem mass_within (l : List (Nat × Nat)) (a n b m : Nat) (h1 : a ≤ b) (h2 : b + m ≤ a + n) : mass (withinL l a n) b m = mass l b m := by
  induction l with
  | nil => rfl
  | cons r l ih =>
    have e : withinL (r :: l) a n = (if (cutR r a n).1 < (cutR r a n).2 then [cutR r a n] else []) ++ withinL l a n := by
      unfold withinL
      rw [List.map_cons, List.filter_cons]
      by_cases h : (cutR r a n).1 < (cutR r a n).2 <;> simp [h]
    rw [e, mass_append, mass_cons, ih]
    congr 1
    by_cases h : (cutR r a n).1 < (cutR r a n).2
    · rw [if_pos h, mass_cons, mass_nil]
      unfold cutR at h ⊢
      unfold clip
      simp only at h ⊢
      omega
    · rw [if_neg h, mass_nil]
      unfold cutR at h
      unfold clip
      simp only at h
      omega
theorem mass_sum (l : List (Nat × Nat)) (a n : Nat) : mass (withinL l a n) a n = ((withinL l a n).map fun r => r.2 - r.1).sum := by
  unfold mass
  congr 1
  refine List.map_congr_left fun r hr => ?_
  unfold withinL at hr
  obtain ⟨h1, _⟩ := List.mem_filter.1 hr
  obtain ⟨x, _, rfl⟩ := List.mem_map.1 h1
  unfold clip cutR
  simp only
  omega

/-- How many trees; whether they are right in shape; how many nodes are left of l behind them; below 0: no. -/
def Fo.len : Fo → Nat
  | .nil => 0
  | .cons _ _ rest => rest.len + 1
def one (o : Bool) : List Tr → Option Tr
  | [] => some (.leaf o)
  | [x, y] => if o = true then none else some (.node x y)
  | _ => none
def trees : Fo → Option (List Tr)
  | .nil => some []
  | .cons o ks rest => (trees ks).bind fun k => (one o k).bind fun t => (trees rest).map (t :: ·)
def rightK : Fo → Nat → Int → Int
  | .nil, _, l => l
  | .cons o ks rest, d, l =>
    let l1 := if l - 1 < 0 ∨ (ks.len ≠ 0 ∧ (ks.len ≠ 2 ∨ o = true ∨ d = 0)) then -1 else rightK ks (d - 1) (l - 1)
    if l1 < 0 then l1 else rightK rest d l1
def rightT (o : Bool) (ks : Fo) (d : Nat) (l : Int) : Int := if l - 1 < 0 ∨ (ks.len ≠ 0 ∧ (ks.len ≠ 2 ∨ o = true ∨ d = 0)) then -1 else rightK ks (d - 1) (l - 1)
theorem rightK_cons (o : Bool) (ks rest : Fo) (d : Nat) (l : Int) : rightK (.cons o ks rest) d l = if rightT o ks d l < 0 then rightT o ks d l else rightK rest d (rightT o ks d l) := rfl
theorem trees_len : ∀ (f : Fo) (ts : List Tr), trees f = some ts → ts.length = f.len
  | .nil, ts, h => by simp [trees] at h; subst h; rfl
  | .cons o ks rest, ts, h => by
    simp only [trees] at h
    obtain ⟨k, _, h⟩ := Option.bind_eq_some_iff.1 h
    obtain ⟨t, _, h⟩ := Option.bind_eq_some_iff.1 h
    obtain ⟨r, hr, rfl⟩ := Option.map_eq_some_iff.1 h
    simp [Fo.len, trees_len rest r hr]
/-- Nodes left behind a tree of l, within a depth; below 0: no. -/
def leftOf (t : Option Tr) (d : Nat) (l : Int) : Int := match t with
  | some t => if t.depth ≤ d ∧ (t.nodes : Int) ≤ l then l - t.nodes else -1
  | none => -1
def sumN (ts : List Tr) : Nat := (ts.map Tr.nodes).sum
def leftOfs (ts : Option (List Tr)) (d : Nat) (l : Int) : Int := match ts with
  | some ts => if (∀ t ∈ ts, t.depth ≤ d) ∧ (sumN ts : Int) ≤ l then l - sumN ts else -1
  | none => -1
theorem rightT_of (o : Bool) (ks : Fo) (d : Nat) (l : Int) (hl : 0 ≤ l) (ih : ∀ d l, 0 ≤ l → rightK ks d l = leftOfs (trees ks) d l) : rightT o ks d l = leftOf ((trees ks).bind (one o)) d l := by
  unfold rightT
  by_cases h0 : l - 1 < 0
  · rw [if_pos (.inl h0)]
    unfold leftOf
    split
    · rename_i t _
      have := t.nodes_pos
      rw [if_neg (by omega)]
    · rfl
  · cases hk : trees ks with
    | none =>
      simp only [Option.bind_none, leftOf]
      split
      · rfl
      · rw [ih _ _ (by omega), hk]; rfl
    | some k =>
      have hlen := trees_len ks k hk
      simp only [Option.bind_some]
      match k, hlen with
      | [], hlen =>
        have e : ks.len = 0 := hlen.symm
        rw [if_neg (by rw [e]; omega), ih _ _ (by omega), hk]
        simp [leftOfs, leftOf, one, sumN, Tr.depth, Tr.nodes]
      | [x, y], hlen =>
        have e : ks.len = 2 := hlen.symm
        cases o with
        | true => rw [if_pos (by rw [e]; simp)]; simp [one, leftOf]
        | false =>
          by_cases hd : d = 0
          · rw [if_pos (by rw [e]; simp [hd])]
            simp [one, leftOf, Tr.depth, hd]
          · rw [if_neg (by rw [e]; simp [hd]; omega), ih _ _ (by omega), hk]
            have e1 : (∀ t ∈ [x, y], t.depth ≤ d - 1) ↔ (Tr.node x y).depth ≤ d := by
              simp only [List.mem_cons, List.not_mem_nil, or_false, forall_eq_or_imp, forall_eq, Tr.depth]; omega
            have e2 : ((sumN [x, y] : Nat) : Int) = ((Tr.node x y).nodes : Int) - 1 := by simp [sumN, Tr.nodes]
            simp only [leftOfs, leftOf, one, e1, e2, Bool.false_eq_true, if_false]
            by_cases hc : (Tr.node x y).depth ≤ d ∧ ((Tr.node x y).nodes : Int) ≤ l
            · rw [if_pos ⟨hc.1, by omega⟩, if_pos hc]; omega
            · rw [if_neg (fun h => hc ⟨h.1, by omega⟩), if_neg hc]
      | [_], hlen =>
        have e : ks.len = 1 := hlen.symm
        rw [if_pos (by rw [e]; simp)]; simp [one, leftOf]
      | _ :: _ :: _ :: r, hlen =>
        have e : ks.len = r.length + 3 := by rw [← hlen]; simp
        rw [if_pos (by rw [e]; right; omega)]; simp [one, leftOf]
theorem rightK_of : ∀ (f : Fo) (d : Nat) (l : Int), 0 ≤ l → rightK f d l = leftOfs (trees f) d l
  | .nil, d, l, h => by simp [rightK, trees, leftOfs, sumN, h]
  | .cons o ks rest, d, l, h => by
    rw [rightK_cons, rightT_of o ks d l h (rightK_of ks)]
    have ihr := rightK_of rest d
    cases hk : (trees ks).bind (one o) with
    | none =>
      have : trees (.cons o ks rest) = none := by
        simp only [trees]
        cases ht : trees ks with
        | none => rfl
        | some k => rw [ht, Option.bind_some] at hk; simp [hk]
      rw [this]
      simp [leftOf, leftOfs]
    | some t =>
      have e : trees (.cons o ks rest) = (trees rest).map (t :: ·) := by
        simp only [trees]
        cases ht : trees ks with
        | none => rw [ht] at hk; cases hk
        | some k => rw [ht, Option.bind_some] at hk; simp [hk]
      rw [e]
      have hp := t.nodes_pos
      by_cases hc : t.depth ≤ d ∧ (t.nodes : Int) ≤ l
      · have hv : leftOf (some t) d l = l - t.nodes := if_pos hc
        generalize leftOf (some t) d l = v at *
        subst hv
        rw [if_neg (by omega), ihr _ (by omega)]
        cases hr : trees rest with
        | none => rfl
        | some ts =>
          have es : ((sumN (t :: ts) : Nat) : Int) = t.nodes + sumN ts := by simp [sumN]
          have ed : (∀ x ∈ t :: ts, x.depth ≤ d) ↔ (∀ x ∈ ts, x.depth ≤ d) := by
            simp only [List.mem_cons, forall_eq_or_imp]
            exact ⟨fun h => h.2, fun h => ⟨hc.1, h⟩⟩
          simp only [leftOfs, Option.map_some, es, ed]
          by_cases h2 : (∀ x ∈ ts, x.depth ≤ d) ∧ (sumN ts : Int) ≤ l - t.nodes
          · rw [if_pos h2, if_pos ⟨h2.1, by omega⟩]; omega
          · rw [if_neg h2, if_neg (fun h => h2 ⟨h.1, by omega⟩)]
      · have hv : leftOf (some t) d l = -1 := if_neg hc
        generalize leftOf (some t) d l = v at *
        subst hv
        rw [if_pos (by decide)]
        cases hr : trees rest with
        | none => rfl
        | some ts =>
          have es : ((sumN (t :: ts) : Nat) : Int) = t.nodes + sumN ts := by simp [sumN]
          simp only [leftOfs, Option.map_some]
          rw [if_neg]
          rintro ⟨h1, h2⟩
          exact hc ⟨h1 t List.mem_cons_self, by omega⟩
/-- The right tree that came in, if it is one. -/
def treeOf (o : Bool) (ks : Fo) : Option Tr := ((trees ks).bind (one o)).filter fun t => decide (t.depth ≤ 32) && decide (t.nodes ≤ 2047)
theorem rightT_full (o : Bool) (ks : Fo) : (0 ≤ rightT o ks 32 2047) = ((treeOf o ks).isSome = true) := by
  rw [rightT_of o ks 32 2047 (by decide) (rightK_of ks)]
  unfold treeOf
  cases (trees ks).bind (one o) with
  | none => simp [leftOf, Option.filter]
  | some t =>
    simp only [leftOf, Option.filter]
    by_cases h : t.depth ≤ 32 ∧ (t.nodes : Int) ≤ 2047
    · have e : (decide (t.depth ≤ 32) && decide (t.nodes ≤ 2047)) = true := by simp; omega
      rw [if_pos h, if_pos e]; simp; omega
    · have e : ¬ (decide (t.depth ≤ 32) && decide (t.nodes ≤ 2047)) = true := by simp; intro h1; have : ¬ ((t.nodes : Int) ≤ 2047) := fun h2 => h ⟨h1, h2⟩; omega
      rw [if_neg h, if_neg e]; simp
end Go.Proofs.YtoaglkjpjolacaaGreatDoor.I
namespace Go.Proofs.YtoaglkjpjolacaaGreatDoor.I
open Go.RowKit
theorem ret_int {k : IntKind} {a b : Int} (h : a = b) : Ending.returned (.int k a) = .returned (.int k b) := by rw [h]
theorem ret_bool {a b : Bool} (h : a = b) : Ending.returned (.bool a) = .returned (.bool b) := by rw [h]

/-- Trees one behind the other from a cell on, all below block B. -/
def InF (w : World) (B : Nat) : Fo → Nat → Nat → Prop
  | .nil, _, _ => True
  | .cons o ks rest, b, off => (∃ A c, w.cell? ⟨b, off, none⟩ = some (.bool o) ∧ w.cell? ⟨b, off + 1, none⟩ = some (.slice A ks.len c) ∧ (ks.len = 0 ∨ ∃ b' off', A = some ⟨b', off', none⟩ ∧ b' < B ∧ InF w B ks b' off')) ∧ InF w B rest b (off + 2)
/-- A slice of trees. -/
def Kd (w : World) (B : Nat) (ks : Fo) (A : Option Addr) : Prop := ks.len = 0 ∨ ∃ b off, A = some ⟨b, off, none⟩ ∧ b < B ∧ InF w B ks b off
/-- A tree as a value. -/
def tv (o : Bool) (A : Option Addr) (n c : Nat) : Value := .agg #[.bool o, .slice A n c]
theorem InF.keep {w w' : World} {B : Nat} (hk : ∀ p : Addr, p.block < B → w'.cell? p = w.cell? p) : ∀ {f : Fo} {b off : Nat}, b < B → InF w B f b off → InF w' B f b off
  | .nil, _, _, _, _ => trivial
  | .cons o ks rest, b, off, hb, ⟨⟨A, c, h1, h2, h3⟩, h4⟩ => by
    refine ⟨⟨A, c, (hk _ hb).trans h1, (hk _ hb).trans h2, ?_⟩, InF.keep hk hb h4⟩
    rcases h3 with h3 | ⟨b', off', e, hb', h3⟩
    · exact .inl h3
    · exact .inr ⟨b', off', e, hb', InF.keep hk hb' h3⟩
theorem InF.more {w : World} {B B' : Nat} (hB : B ≤ B') : ∀ {f : Fo} {b off : Nat}, InF w B f b off → InF w B' f b off
  | .nil, _, _, _ => trivial
  | .cons o ks rest, b, off, ⟨⟨A, c, h1, h2, h3⟩, h4⟩ => by
    refine ⟨⟨A, c, h1, h2, ?_⟩, InF.more hB h4⟩
    rcases h3 with h3 | ⟨b', off', e, hb', h3⟩
    · exact .inl h3
    · exact .inr ⟨b', off', e, by omega, InF.more hB h3⟩
theorem Kd.below {w w' : World} {B : Nat} {ks : Fo} {A : Option Addr} (h : Kd w B ks A) (hb : Below B w w') : Kd w' B ks A := by
  rcases h with h | ⟨b, off, e, hl, h⟩
  · exact .inl h
  · exact .inr ⟨b, off, e, hl, h.keep (fun _ hp => hb.cell hp) hl⟩
theorem Kd.more {w : World} {B B' : Nat} {ks : Fo} {A : Option Addr} (h : Kd w B ks A) (hB : B ≤ B') : Kd w B' ks A := by
  rcases h with h | ⟨b, off, e, hl, h⟩
  · exact .inl h
  · exact .inr ⟨b, off, e, by omega, h.more hB⟩
theorem Kd.up {w w' : World} {ks : Fo} {A : Option Addr} (h : Kd w w.heap.size ks A) (hb : Below w.heap.size w w') : Kd w' w'.heap.size ks A := (h.below hb).more hb.size

theorem rightT_le (o : Bool) (ks : Fo) (d : Nat) (l : Int) (hl : 0 ≤ l) : -1 ≤ rightT o ks d l ∧ rightT o ks d l ≤ l := by
  rw [rightT_of o ks d l hl (rightK_of ks)]
  unfold leftOf
  split
  · split <;> omega
  · omega

set_option maxRecDepth 100000 in
set_option maxHeartbeats 1600000 in
theorem rright_any (d : Nat) : ∀ (o : Bool) (ks : Fo) (A : Option Addr) (c : Nat) (l : Int) (w : World), d ≤ 1000 → 0 ≤ l → l ≤ 1000000 → Kd w w.heap.size ks A →
    Calls Tryz.prog 127 #[tv o A ks.len c, .int .i64 d, .int .i64 l] w fun e w' => e = .returned (.int .i64 (rightT o ks d l)) ∧ Below w.heap.size w w' := by
  induction d using Nat.strongRecOn with
  | _ d ih =>
  intro o ks A c l w hd hl hl2 hk
  unfold tv
  have HB0 : Hid (Below w.heap.size w (w.alloc (.cells #[.bool o, .slice A ks.len c] 24))) := (Below.refl _ w).alloc (Nat.le_refl _) _
  have HK := Lib.hid hk
  clear hk
  by_cases h0 : l - 1 < 0
  · have HR : Hid (rightT o ks d l = -1) := if_pos (.inl h0)
    clear ih
    go_enter Tryz.func127, Tryz.ntmps127
    go_wp2
    go_ret
    exact ⟨ret_int HR.out.symm, HB0.out⟩
  · by_cases hn : ks.len = 0
    · have HR : Hid (rightT o ks d l = l - 1) := by
        show _ = _
        unfold rightT
        rw [if_neg (by rw [hn]; omega)]
        cases ks with
        | nil => rfl
        | cons _ _ _ => simp [Fo.len] at hn
      obtain ⟨n, hne⟩ : ∃ n, ks.len = n := ⟨_, rfl⟩
      rw [hne] at hn HB0 ⊢
      subst hn
      clear ih hne
      go_enter Tryz.func127, Tryz.ntmps127
      go_wp2
      go_loopg [2, 7] 0 (fun k x i wr => k = 0 ∧ x = .int .i64 (l - 1) ∧ i = .int .i64 0 ∧ wr = w.alloc (.cells #[.bool o, .slice A 0 c] 24))
      case atStart => exact ⟨rfl, rfl, rfl, rfl⟩
      case round =>
        obtain ⟨_, rfl, rfl, rfl⟩ := hrel
        go_wp2
        go_ret
        exact ⟨ret_int HR.out.symm, HB0.out⟩
    · by_cases hbad : ks.len ≠ 2 ∨ o = true ∨ d = 0
      · have HR : Hid (rightT o ks d l = -1) := if_pos (.inr ⟨hn, hbad⟩)
        have hn0 : ((ks.len : Int) == 0) = false := beq_eq_false_iff_ne.2 (by omega)
        clear ih
        by_cases h2 : ks.len = 2
        · have h2b : ((ks.len : Int) == 2) = true := by rw [h2]; rfl
          cases o with
          | true =>
            obtain ⟨n, hne⟩ : ∃ n, ks.len = n := ⟨_, rfl⟩
            rw [hne] at h2 h2b hn0 HB0 hn ⊢
            subst h2
            clear hbad hne hn0 h2b
            go_enter Tryz.func127, Tryz.ntmps127
            go_wp2
            go_ret
            exact ⟨ret_int HR.out.symm, HB0.out⟩
          | false =>
            have hd0 : d = 0 := by
              rcases hbad with h | h | h
              · exact absurd h2 h
              · cases h
              · exact h
            subst hd0
            obtain ⟨n, hne⟩ : ∃ n, ks.len = n := ⟨_, rfl⟩
            rw [hne] at h2 h2b hn0 HB0 hn ⊢
            subst h2
            clear hbad hne hn0 h2b
            go_enter Tryz.func127, Tryz.ntmps127
            go_wp2
            go_ret
            exact ⟨ret_int HR.out.symm, HB0.out⟩
        · have h2b : ((ks.len : Int) == 2) = false := beq_eq_false_iff_ne.2 (by omega)
          obtain ⟨n, hne⟩ : ∃ n, ks.len = n := ⟨_, rfl⟩
          rw [hne] at h2 h2b hn0 HB0 hn ⊢
          clear hbad hne
          go_enter Tryz.func127, Tryz.ntmps127
          go_wp2
          go_ret
          exact ⟨ret_int HR.out.symm, HB0.out⟩
      · have h2 : ks.len = 2 := by
          rcases Nat.decEq ks.len 2 with h | h
          · exact absurd (.inl h) hbad
          · exact h
        have ho : o = false := by
          cases o with
          | true => exact absurd (.inr (.inl rfl)) hbad
          | false => rfl
        have hd0 : d ≠ 0 := fun h => hbad (.inr (.inr h))
        subst ho
        have HR : Hid (rightT false ks d l = rightK ks (d - 1) (l - 1)) := if_neg (by rintro (h | ⟨_, h⟩); exact h0 h; exact hbad h)
        obtain ⟨b, off, rfl, hb, hf⟩ : ∃ b off, A = some ⟨b, off, none⟩ ∧ b < w.heap.size ∧ InF w w.heap.size ks b off := by
          rcases HK.out with h | h
          · omega
          · exact h
        have hd0b : ((d : Int) == 0) = false := beq_eq_false_iff_ne.2 (by omega)
        have HF := Lib.hid hf
        rw [h2] at HB0 ⊢
        have HB := Lib.hid hb
        have hIH := fun o ks A c l w => ih (d - 1) (by omega) o ks A c l w (by omega)
        simp only [show ((d - 1 : Nat) : Int) = (d : Int) - 1 by omega] at hIH
        have H2 := Lib.hid h2
        clear ih hbad hn hf hb h2
        go_enter Tryz.func127, Tryz.ntmps127
        go_wp2
        go_loopg [2, 7] 2 (fun k x i wr => ∃ (j : Nat) (fo : Fo) (z : Int), j ≤ 2 ∧ k = 2 - j ∧ x = .int .i64 z ∧ i = .int .i64 j ∧ Hid (fo.len + j = 2) ∧ Hid (InF w w.heap.size fo b (off + j * 2)) ∧ Hid ((if z < 0 then z else rightK fo (d - 1) z) = rightK ks (d - 1) (l - 1)) ∧ z ≤ l - 1 ∧ -1 ≤ z ∧ wr.cell? ⟨w.heap.size, 1, none⟩ = some (.slice (some ⟨b, off, none⟩) 2 c) ∧ Hid (Below w.heap.size w wr) ∧ Hid (w.heap.size + 1 ≤ wr.heap.size))
        case atStart => exact ⟨0, ks, l - 1, by omega, rfl, rfl, rfl, H2.out, HF.out, by show _ = _; rw [if_neg (by omega)], by omega, by omega, by simp [go_sem], HB0.out, by show _ ≤ _; simp⟩
        case round =>
          obtain ⟨j, fo, z, hj, hgk, rfl, rfl, hlen, hfo, hinv, hz1, hz2, hc, hB, hsz⟩ := hrel
          have HGK := Lib.hid hgk; clear hgk
          by_cases hlt : j < 2
          · by_cases hzn : z < 0
            · have hinv2 := hinv.out
              rw [if_pos hzn] at hinv2
              have HI := Lib.hid hinv2
              clear hinv2
              go_wp2
              go_ret
              exact ⟨ret_int (by rw [HR.out]; exact HI.out), hB.out⟩
            · cases fo with
              | nil => have := hlen.out; simp [Fo.len] at this; omega
              | cons o2 k2 rest =>
                obtain ⟨⟨A2, c2, e1, e2, e3⟩, e4⟩ := hfo.out
                have g1 := (hB.out.cell (p := ⟨b, off + j * 2, none⟩) HB.out).trans e1
                have g2 := (hB.out.cell (p := ⟨b, off + j * 2 + 1, none⟩) HB.out).trans e2
                have hk2 : Kd w w.heap.size k2 A2 := e3
                have hcall := hIH o2 k2 A2 c2 z wr (by omega) (by omega) (hk2.up hB.out)
                have HLE := Lib.hid (rightT_le o2 k2 (d - 1) z (by omega))
                have HI : Hid ((if rightT o2 k2 (d - 1) z < 0 then rightT o2 k2 (d - 1) z else rightK rest (d - 1) (rightT o2 k2 (d - 1) z)) = rightK ks (d - 1) (l - 1)) := by
                  show _ = _
                  rw [← rightK_cons, ← hinv.out, if_neg hzn]
                have HL2 : Hid (rest.len + (j + 1) = 2) := by show _ = _; have := hlen.out; simp [Fo.len] at this; omega
                have HF2 : Hid (InF w w.heap.size rest b (off + (j + 1) * 2)) := by
                  show InF _ _ _ _ _
                  rw [show off + (j + 1) * 2 = off + j * 2 + 2 by omega]; exact e4
                obtain ⟨z2, hz2e⟩ : ∃ z2, rightT o2 k2 (d - 1) z = z2 := ⟨_, rfl⟩
                rw [hz2e] at hcall HLE HI
                unfold tv at hcall
                clear e1 e2 e3 e4 hk2 hz2e hIH
                go_wp2_with fail
                refine hcall.mono ?_
                rintro e w2 ⟨rfl, hb2⟩
                have hc2 := (hb2.cell (p := ⟨w.heap.size, 1, none⟩) (by have := hsz.out; show w.heap.size < wr.heap.size; omega)).trans hc
                have HB2 : Hid (Below w.heap.size w w2) := hB.out.trans (hb2.mono hB.out.size)
                have HS2 : Hid (w.heap.size + 1 ≤ w2.heap.size) := Nat.le_trans hsz.out hb2.size
                have hz3 := HLE.out
                clear hb2 hcall g1 g2 hc
                go_wp2
                go_roundg (2 - (j + 1))
                case measure => have := HGK.out; omega
                case rel => exact ⟨j + 1, rest, z2, by omega, rfl, rfl, by go_num, HL2, HF2, HI, by omega, by omega, hc2, HB2, HS2⟩
          · obtain rfl : j = 2 := by omega
            have HI : Hid (z = rightK ks (d - 1) (l - 1)) := by
              show _ = _
              have := hlen.out
              cases fo with
              | nil =>
                have h := hinv.out
                by_cases hz : z < 0
                · rwa [if_pos hz] at h
                · rw [if_neg hz] at h; exact h
              | cons _ _ _ => simp [Fo.len] at this
            clear hIH
            go_wp2
            go_ret
            exact ⟨ret_int (by rw [HR.out]; exact HI.out), hB.out⟩
end Go.Proofs.YtoaglkjpjolacaaGreatDoor.I
namespace Go.Proofs.YtoaglkjpjolacaaGreatDoor.I
open Go.RowKit
set_option maxRecDepth 100000 in
set_option maxHeartbeats 800000 in
theorem rRight_any (o : Bool) (ks : Fo) (A : Option Addr) (c : Nat) (w : World) (hk : Kd w w.heap.size ks A) :
    Calls Tryz.prog 66 #[tv o A ks.len c] w fun e w' => e = .returned (.bool (treeOf o ks).isSome) ∧ Below w.heap.size w w' := by
  have hb0 : Below w.heap.size w (w.alloc (.cells #[.bool o, .slice A ks.len c] 24)) := (Below.refl _ w).alloc (Nat.le_refl _) _
  have hcall := rright_any 32 o ks A c 2047 (w.alloc (.cells #[.bool o, .slice A ks.len c] 24)) (by omega) (by omega) (by omega) (hk.up hb0)
  have HR := Lib.hid (rightT_full o ks)
  obtain ⟨z, hz⟩ : ∃ z, rightT o ks 32 2047 = z := ⟨_, rfl⟩
  rw [hz] at hcall HR
  unfold tv at hcall ⊢
  have HB0 := Lib.hid hb0
  clear hb0 hz hk
  go_enter Tryz.func66, Tryz.ntmps66
  go_wp2_with fail
  refine hcall.mono ?_
  rintro e w1 ⟨rfl, hb1⟩
  go_wp2
  go_ret
  refine ⟨ret_bool ?_, HB0.out.trans (hb1.mono HB0.out.size)⟩
  have := HR.out
  rw [Bool.eq_iff_iff, decide_eq_true_iff, this]

/-- An append whose run is known. -/
theorem wpList_append_run {P : Program} {w w' : World} {v' : Value} {ops : Array Oper} {rest : List Oper} {o : Oper} {a : Act} {Q : Exit → Act → World → Prop} (hgd : o.guard = none) (s x : Operand) (t u : TypeId)
    (ho : o.op = .call { callee := .builtin .append, args := #[s, x], argTypes := #[t, u] }) (vs vx : Value) (hs : a.eval s = vs) (hx : a.eval x = vx) (hrun : (Builtin.append_ #[t, u] o.type #[vs, vx]).run P w = .ok v' w')
    (h : wpList P ops Q rest (a.put o.dst v') w') : wpList P ops Q (o :: rest) a w :=
  wpList_plain hgd fun _ hK => by
    unfold Oper.wp execOp
    simp only [ho, resolve, invoke, builtin, Sem.run_bind, Sem.run_pure, Result.andThen_ok, List.map_toArray, List.map_cons, List.map_nil, hs, hx, hrun]
    exact hK _ _ h

/-- A right tree in memory. -/
def InT (w : World) (B : Nat) : Tr → Value → Prop
  | .leaf o, v => ∃ A c, v = tv o A 0 c
  | .node x y, v => ∃ b off c, v = tv false (some ⟨b, off, none⟩) 2 c ∧ b < B ∧
      (∃ o A n c, w.cell? ⟨b, off, none⟩ = some (.bool o) ∧ w.cell? ⟨b, off + 1, none⟩ = some (.slice A n c) ∧ InT w B x (tv o A n c)) ∧
      (∃ o A n c, w.cell? ⟨b, off + 2, none⟩ = some (.bool o) ∧ w.cell? ⟨b, off + 3, none⟩ = some (.slice A n c) ∧ InT w B y (tv o A n c))
theorem InT.keep {w w' : World} {B : Nat} (hk : ∀ p : Addr, p.block < B → w'.cell? p = w.cell? p) : ∀ {t : Tr} {v : Value}, InT w B t v → InT w' B t v
  | .leaf _, _, h => h
  | .node _ _, _, ⟨b, off, c, e, hb, ⟨o1, A1, n1, c1, h1, h2, h3⟩, ⟨o2, A2, n2, c2, g1, g2, g3⟩⟩ =>
    ⟨b, off, c, e, hb, ⟨o1, A1, n1, c1, (hk _ hb).trans h1, (hk _ hb).trans h2, h3.keep hk⟩, ⟨o2, A2, n2, c2, (hk _ hb).trans g1, (hk _ hb).trans g2, g3.keep hk⟩⟩
theorem InT.more {w : World} {B B' : Nat} (hB : B ≤ B') : ∀ {t : Tr} {v : Value}, InT w B t v → InT w B' t v
  | .leaf _, _, h => h
  | .node _ _, _, ⟨b, off, c, e, hb, ⟨o1, A1, n1, c1, h1, h2, h3⟩, ⟨o2, A2, n2, c2, g1, g2, g3⟩⟩ =>
    ⟨b, off, c, e, by omega, ⟨o1, A1, n1, c1, h1, h2, h3.more hB⟩, ⟨o2, A2, n2, c2, g1, g2, g3.more hB⟩⟩
theorem InT.below {w w' : World} {B : Nat} {t : Tr} {v : Value} (h : InT w B t v) (hb : Below B w w') : InT w' B t v := h.keep fun _ hp => hb.cell hp
theorem InT.up {w w' : World} {t : Tr} {v : Value} (h : InT w w.heap.size t v) (hb : Below w.heap.size w w') : InT w' w'.heap.size t v := (h.below hb).more hb.size
theorem InT.form {w : World} {B : Nat} {t : Tr} {v : Value} (h : InT w B t v) : ∃ o A n c, v = tv o A n c := by
  cases t with
  | leaf o => obtain ⟨A, c, e⟩ := h; exact ⟨_, _, _, _, e⟩
  | node x y => obtain ⟨b, off, c, e, _⟩ := h; exact ⟨_, _, _, _, e⟩
/-- Trees that came in and are right in shape, one behind the other. -/
def InTs (w : World) (B : Nat) : List Tr → Nat → Nat → Prop
  | [], _, _ => True
  | t :: ts, b, off => (∃ o A n c, w.cell? ⟨b, off, none⟩ = some (.bool o) ∧ w.cell? ⟨b, off + 1, none⟩ = some (.slice A n c) ∧ InT w B t (tv o A n c)) ∧ InTs w B ts b (off + 2)
theorem one_in {w : World} {B : Nat} {o : Bool} {ks : Fo} {A : Option Addr} {c : Nat} {k : List Tr} {t : Tr} (hk : trees ks = some k) (ht : one o k = some t) (h : Kd w B ks A) (ih : ∀ b off, InF w B ks b off → InTs w B k b off) : InT w B t (tv o A ks.len c) := by
  have hlen := trees_len ks k hk
  match k, hlen, ht with
  | [], hlen, ht =>
    simp only [one, Option.some.injEq] at ht
    subst ht
    rw [← hlen]
    exact ⟨A, c, rfl⟩
  | [x, y], hlen, ht =>
    cases o with
    | true => simp [one] at ht
    | false =>
      simp only [one, Bool.false_eq_true, if_false, Option.some.injEq] at ht
      subst ht
      rcases h with h | ⟨b, off, rfl, hb, h⟩
      · rw [← hlen] at h; cases h
      · obtain ⟨h1, h2, _⟩ := ih b off h
        rw [← hlen]
        exact ⟨b, off, c, rfl, hb, h1, h2⟩
  | [_], _, ht => simp [one] at ht
  | _ :: _ :: _ :: _, _, ht => simp [one] at ht
theorem in_trees {w : World} {B : Nat} : ∀ (f : Fo) (ts : List Tr) (b off : Nat), trees f = some ts → InF w B f b off → InTs w B ts b off
  | .nil, ts, b, off, h, _ => by simp [trees] at h; subst h; trivial
  | .cons o ks rest, ts, b, off, h, ⟨⟨A, c, h1, h2, h3⟩, h4⟩ => by
    simp only [trees] at h
    obtain ⟨k, hk, h⟩ := Option.bind_eq_some_iff.1 h
    obtain ⟨t, ht, h⟩ := Option.bind_eq_some_iff.1 h
    obtain ⟨r, hr, rfl⟩ := Option.map_eq_some_iff.1 h
    exact ⟨⟨o, A, ks.len, c, h1, h2, one_in hk ht h3 (fun b off hf => in_trees ks k b off hk hf)⟩, in_trees rest r b (off + 2) hr h4⟩
theorem in_treeOf {w : World} {B : Nat} {o : Bool} {ks : Fo} {A : Option Addr} {c : Nat} {t : Tr} (ht : treeOf o ks = some t) (h : Kd w B ks A) : InT w B t (tv o A ks.len c) ∧ t.depth ≤ 32 ∧ t.nodes ≤ 2047 := by
  unfold treeOf at ht
  obtain ⟨h1, h2⟩ := Option.filter_eq_some_iff.1 ht
  obtain ⟨k, hk, h1⟩ := Option.bind_eq_some_iff.1 h1
  simp only [Bool.and_eq_true, decide_eq_true_eq] at h2
  exact ⟨one_in hk h1 h (fun b off hf => in_trees ks k b off hk hf), h2.1, h2.2⟩

/-- Ranges as cells; a slice of ranges of the call's own, nil if it holds none. -/
def cellsR (l : List (Nat × Nat)) : List Value := l.flatMap fun r => [.int .u64 (r.1 : Int), .int .u64 (r.2 : Int)]
theorem cellsR_length (l : List (Nat × Nat)) : (cellsR l).length = l.length * 2 := by
  induction l with
  | nil => rfl
  | cons p t ih => simp [cellsR] at ih ⊢; omega
theorem cellsR_get : ∀ (l : List (Nat × Nat)) (j : Nat) (r : Nat × Nat), l[j]? = some r → (cellsR l)[j * 2]? = some (.int .u64 (r.1 : Int)) ∧ (cellsR l)[j * 2 + 1]? = some (.int .u64 (r.2 : Int))
  | [], j, p, h => by simp at h
  | q :: t, 0, p, h => by simp at h; subst h; simp [cellsR]
  | q :: t, j + 1, p, h => by
    have ih := cellsR_get t j p (by simpa using h)
    have e : cellsR (q :: t) = .int .u64 (q.1 : Int) :: .int .u64 (q.2 : Int) :: cellsR t := by simp [cellsR]
    rw [e, show (j + 1) * 2 = j * 2 + 1 + 1 by omega]
    simp only [List.getElem?_cons_succ]
    exact ih
/-- A slice of ranges that reads as l and lies below block B. -/
def RowR (w : World) (B : Nat) (A : Option Addr) (l : List (Nat × Nat)) : Prop :=
  0 < l.length → ∃ b off, A = some ⟨b, off, none⟩ ∧ b < B ∧ ∀ j r, l[j]? = some r → w.cell? ⟨b, off + j * 2, none⟩ = some (.int .u64 (r.1 : Int)) ∧ w.cell? ⟨b, off + j * 2 + 1, none⟩ = some (.int .u64 (r.2 : Int))
theorem RowR.keep {w w' : World} {B : Nat} {A : Option Addr} {l : List (Nat × Nat)} (h : RowR w B A l) (hk : ∀ p : Addr, p.block < B → w'.cell? p = w.cell? p) : RowR w' B A l :=
  fun hn => by obtain ⟨b, off, e, hb, hc⟩ := h hn; exact ⟨b, off, e, hb, fun j p hj => ⟨(hk _ hb).trans (hc j p hj).1, (hk _ hb).trans (hc j p hj).2⟩⟩
theorem RowR.below {w w' : World} {B : Nat} {A : Option Addr} {l : List (Nat × Nat)} (h : RowR w B A l) (hb : Below B w w') : RowR w' B A l := h.keep fun _ hp => hb.cell hp
theorem RowR.more {w : World} {B B' : Nat} {A : Option Addr} {l : List (Nat × Nat)} (h : RowR w B A l) (hB : B ≤ B') : RowR w B' A l := fun hn => by obtain ⟨b, off, e, hb, hc⟩ := h hn; exact ⟨b, off, e, by omega, hc⟩
theorem RowR.up {w w' : World} {A : Option Addr} {l : List (Nat × Nat)} (h : RowR w w.heap.size A l) (hb : Below w.heap.size w w') : RowR w' w'.heap.size A l := (h.below hb).more hb.size
def GrR (w : World) (base : Nat) (A : Option Addr) (c : Nat) (l : List (Nat × Nat)) : Prop := w.ownsRow base 148 2 (.slice A l.length c) l.length (cellsR l)
theorem GrR.nil (w : World) (base : Nat) : GrR w base none 0 [] := ⟨by simp [cellsR], .inl ⟨rfl, rfl⟩⟩
theorem GrR.cases {w : World} {base : Nat} {A : Option Addr} {c : Nat} {l : List (Nat × Nat)} (h : GrR w base A c l) : (A = none ∧ l = [] ∧ c = 0) ∨ ∃ g cur, A = some ⟨g, 0, none⟩ ∧ base ≤ g ∧ w.heap[g]? = some (.cells cur 148 (0, 0)) ∧ l.length ≤ c ∧ c ≤ maxLen ∧ cur.size = c * 2 ∧ cur.toList.take (l.length * 2) = cellsR l := by
  rcases h.2 with ⟨e, h0⟩ | ⟨g, cap, cur, e, hb, hc, h1, h2, h3, h4⟩
  · injection e with e1 e2 e3
    exact .inl ⟨e1, List.eq_nil_of_length_eq_zero e2, e3⟩
  · injection e with e1 e2 e3
    subst e1; subst e3
    exact .inr ⟨g, cur, rfl, hb, hc, h1, h2, h3, h4⟩
theorem GrR.row {w : World} {base c : Nat} {A : Option Addr} {l : List (Nat × Nat)} (h : GrR w base A c l) : RowR w w.heap.size A l := by
  rcases h.cases with ⟨rfl, rfl, rfl⟩ | ⟨g, cur, rfl, hb, hc, h1, h2, h3, h4⟩
  · intro hn; simp at hn
  · refine fun _ => ⟨g, 0, rfl, (Array.getElem?_eq_some_iff.1 hc).1, fun j p hp => ?_⟩
    have hj := (List.getElem?_eq_some_iff.1 hp).1
    have hcell : ∀ k, k < l.length * 2 → w.cell? ⟨g, k, none⟩ = (cellsR l)[k]? := fun k hk => by
      rw [cell_of_row w g k cur 148 (0, 0) hc, ← h4, List.getElem?_take, if_pos hk]; simp
    obtain ⟨g0, g1⟩ := cellsR_get l j p hp
    refine ⟨?_, ?_⟩
    · rw [Nat.zero_add, hcell _ (by omega), g0]
    · rw [Nat.zero_add, hcell _ (by omega), g1]
theorem GrR.own {w : World} {base c : Nat} {A : Option Addr} {l : List (Nat × Nat)} (h : GrR w base A c l) : ∀ k, (Value.slice A l.length c).ownBlock = some k → base ≤ k ∧ k < w.heap.size := by
  rcases h.cases with ⟨rfl, rfl, rfl⟩ | ⟨g, cur, rfl, hb, hc, _⟩
  · intro k e; simp [Value.ownBlock] at e
  · intro k e
    simp only [Value.ownBlock, Option.some.injEq] at e
    subst e
    exact ⟨hb, (Array.getElem?_eq_some_iff.1 hc).1⟩
theorem GrR.below {w w' : World} {base c B : Nat} {A : Option Addr} {l : List (Nat × Nat)} (h : GrR w base A c l) (hb : Below B w w') (hB : w.heap.size ≤ B) : GrR w' base A c l := by
  refine ⟨h.1, ?_⟩
  rcases h.2 with ⟨e, h0⟩ | ⟨g, cap, cur, e, hb', hc, h1⟩
  · exact .inl ⟨e, h0⟩
  · have := (Array.getElem?_eq_some_iff.1 hc).1
    exact .inr ⟨g, cap, cur, e, hb', (hb.block g (by omega)).trans hc, h1⟩
theorem info52 : (Tryz.prog.info? 148).map (fun i => (i.zero, i.size, i.bytes)) = some (some (.agg #[.int .u64 0, .int .u64 0]), 2, 16) := by kernel_rfl
theorem oneCell_cellsR (l : List (Nat × Nat)) : ∀ v ∈ cellsR l, v.oneCell' = true := by
  intro v hv
  obtain ⟨p, _, h⟩ := List.mem_flatMap.1 hv
  simp only [List.mem_cons, List.not_mem_nil, or_false] at h
  rcases h with rfl | rfl <;> rfl
/-- Whatever is not a row of ranges lies as it lay. -/
def Fr (w w' : World) : Prop := ∀ (k : Nat) (o : Obj), w.heap[k]? = some o → (∀ cs fr, o ≠ .cells cs 148 fr) → w'.heap[k]? = some o
theorem Fr.refl (w : World) : Fr w w := fun _ _ h _ => h
theorem Fr.trans {a b c : World} (h : Fr a b) (g : Fr b c) : Fr a c := fun k o hk ho => g k o (h k o hk ho) ho
theorem Fr.alloc (w : World) (x : Obj) : Fr w (w.alloc x) := fun k _ hk _ => (Below.heap_alloc w x k (Array.getElem?_eq_some_iff.1 hk).1).trans hk
theorem Fr.cell {w w' : World} (h : Fr w w') {k : Nat} {cs : Array Value} {t : TypeId} (hk : w.heap[k]? = some (.cells cs t (0, 0))) (ht : t ≠ 148) : w'.heap[k]? = some (.cells cs t (0, 0)) := h k _ hk (fun cs' fr e => by injection e with _ e2 _; exact ht e2)
theorem GrR.fr {w w' : World} {base c : Nat} {A : Option Addr} {l : List (Nat × Nat)} (h : GrR w base A c l) (hg : w.grownBy w' (Value.slice A l.length c).ownBlock) : Fr w w' := fun k o hk ho => by
  refine (hg.block k (Array.getElem?_eq_some_iff.1 hk).1 (fun e => ?_)).trans hk
  rcases h.cases with ⟨rfl, h2, rfl⟩ | ⟨g, cur, rfl, _, hc, _⟩
  · simp [Value.ownBlock] at e
  · obtain rfl : k = g := by simpa [Value.ownBlock] using e
    rw [hc] at hk
    injection hk with hk
    exact ho cur (0, 0) hk.symm
/-- append(out, r): one range, in a block of its own. -/
theorem GrR.one {w : World} {base c : Nat} {A : Option Addr} {l : List (Nat × Nat)} (h : GrR w base A c l) (r : Nat × Nat) (ty : TypeId) (hb : l.length ≤ 10000000) (hbase : base ≤ w.heap.size) :
    ∃ A' c' w', (Builtin.append_ #[87, 87] ty #[.slice A l.length c, .slice (some ⟨w.heap.size, 0, none⟩) 1 1]).run Tryz.prog (w.alloc (.cells #[.int .u64 (r.1 : Int), .int .u64 (r.2 : Int)] 148)) = .ok (.slice A' (l.length + 1) c') w' ∧ GrR w' base A' c' (l ++ [r]) ∧ Below base w w' ∧ Fr w w' := by
  obtain ⟨i0, hi, hz0, hz1, hz2⟩ := info_parts info52
  have hB0 : Below base w (w.alloc (.cells #[.int .u64 (r.1 : Int), .int .u64 (r.2 : Int)] 148)) := (Below.refl _ w).alloc hbase _
  have hBt : Below w.heap.size w (w.alloc (.cells #[.int .u64 (r.1 : Int), .int .u64 (r.2 : Int)] 148)) := (Below.refl _ w).alloc (Nat.le_refl _) _
  have hcell : ∀ j u, (cellsR [r])[j]? = some u → (w.alloc (.cells #[.int .u64 (r.1 : Int), .int .u64 (r.2 : Int)] 148)).cell? ((⟨w.heap.size, 0, none⟩ : Addr).add j) = some u := by
    intro j u hu
    have e : (⟨w.heap.size, 0, none⟩ : Addr).add j = ⟨w.heap.size, j, none⟩ := by
      unfold Addr.add; split
      · rename_i h; subst h; rfl
      · simp
    rw [e, cell_of_row _ _ j _ 148 (0, 0) (heap_alloc_new w _)]
    simpa [cellsR] using hu
  obtain ⟨v', w', hrun, ho, hg, hn⟩ := run_append_own_wide (P := Tryz.prog) (w.alloc (.cells #[.int .u64 (r.1 : Int), .int .u64 (r.2 : Int)] 148)) base 87 ty 148 i0 (.agg #[.int .u64 0, .int .u64 0]) 2 16 Tryz.underlying87 hi hz0 hz1 hz2 rfl (by decide) _ _ _ (h.below hBt (Nat.le_refl _)) _ 1 1 (cellsR [r]) (by simp [cellsR]) hcell (oneCell_cellsR [r]) (by unfold maxLen; omega) (by omega) (by simp; omega)
  have hB : Below base w w' := hB0.grown hg (by simp; omega) (fun k e => (h.own k e).1)
  have e2 : cellsR (l ++ [r]) = cellsR l ++ cellsR [r] := by simp [cellsR]
  have e3 : (l ++ [r]).length = l.length + 1 := by simp
  rcases ho.2 with ⟨e, h0⟩ | ⟨g', cap', cur, e, _⟩
  · omega
  · rw [e] at hrun ho
    exact ⟨_, _, w', hrun, by unfold GrR; rw [e2, e3]; exact ho, hB, (Fr.alloc w _).trans ((h.below hBt (Nat.le_refl _)).fr hg)⟩
def LaysR (l : List (Nat × Nat)) (base : Nat) (w : World) (e : Ending) (w' : World) : Prop := ∃ A c, e = .returned (.slice A l.length c) ∧ GrR w' base A c l ∧ Below base w w' ∧ Fr w w'

theorem ranges_len : ∀ (t : Tr) (k a : Nat), (ranges t a (2 ^ k)).length ≤ t.nodes := by
  have key : ∀ (t : Tr) (n a : Nat), (ranges t a n).length ≤ t.nodes := by
    intro t
    induction t with
    | leaf o => intro n a; cases o <;> simp [ranges, Tr.nodes]
    | node x y ihx ihy => intro n a; simp only [ranges, List.length_append, Tr.nodes]; have := ihx (n / 2) a; have := ihy (n / 2) (a + n / 2); omega
  exact fun t k a => key t _ a

set_option maxRecDepth 100000 in
set_option maxHeartbeats 1600000 in
theorem ranges_any : ∀ (t : Tr) (k n a : Nat) (A : Option Addr) (c : Nat) (l : List (Nat × Nat)) (base : Nat) (v : Value) (w : World), t.depth ≤ k → n = 2 ^ k → a + n ≤ 1000000000000 → l.length + t.nodes ≤ 1000000 → InT w base t v → GrR w base A c l → base ≤ w.heap.size →
    Calls Tryz.prog 128 #[.slice A l.length c, v, .int .u64 (a : Int), .int .u64 (n : Int)] w (LaysR (l ++ ranges t a n) base w) := by
  intro t
  induction t with
  | leaf o =>
    rintro k n a A c l base v w hd hn ha hl ⟨A1, c1, rfl⟩ hg hbase
    unfold tv
    cases o with
    | false =>
      have HR : Hid (l ++ ranges (.leaf false) a n = l) := by show _ = _; simp [ranges]
      have HG := Lib.hid hg
      clear hn hg
      go_enter Tryz.func128, Tryz.ntmps128
      go_wp2
      go_ret
      refine ⟨A, c, ?_, ?_, (Below.refl _ w).alloc hbase _, Fr.alloc w _⟩
      · rw [HR.out]; rfl
      · rw [HR.out]; exact HG.out.below ((Below.refl _ w).alloc (Nat.le_refl _) _) (Nat.le_refl _)
    | true =>
      have HR : Hid (l ++ ranges (.leaf true) a n = l ++ [(a, a + n)]) := by show _ = _; simp [ranges]
      have hb0 : Below w.heap.size w (w.alloc (.cells #[.bool true, .slice A1 0 c1] 24)) := (Below.refl _ w).alloc (Nat.le_refl _) _
      obtain ⟨A2, c2, w2, hap, hg2, hb2, hf2⟩ := (hg.below hb0 (Nat.le_refl _)).one (a, a + n) 87 (by simp [Tr.nodes] at hl; omega) (by simp; omega)
      simp only [World.size_alloc, show ((a + n : Nat) : Int) = (a : Int) + (n : Int) by omega] at hap
      have HAP := Lib.hid hap
      have HG2 := Lib.hid hg2
      have HB2 : Hid (Below base w w2) := ((Below.refl _ w).alloc hbase _).trans hb2
      have HF2 : Hid (Fr w w2) := (Fr.alloc w _).trans hf2
      clear hn hg hap hg2 hb2 hf2 hb0
      go_enter Tryz.func128, Tryz.ntmps128
      go_wp2_with (at_builtin; refine wpList_append_run rfl _ _ _ _ rfl _ _ rfl rfl HAP.out ?_; clear HAP)
      go_ret
      refine ⟨A2, c2, ?_, ?_, HB2.out, HF2.out⟩
      · rw [HR.out, List.length_append]; rfl
      · rw [HR.out]; exact HG2.out
  | node x y ihx ihy =>
    rintro k n a A c l base v w hd hn ha hl ⟨b, off, c1, rfl, hb, ⟨o1, A1, n1, d1, e1, e2, e3⟩, ⟨o2, A2, n2, d2, g1, g2, g3⟩⟩ hg hbase
    unfold tv
    obtain ⟨k, rfl⟩ : ∃ k', k = k' + 1 := ⟨k - 1, by simp only [Tr.depth] at hd; omega⟩
    obtain ⟨h, hh⟩ : ∃ h, 2 ^ k = h := ⟨_, rfl⟩
    have hn2 : n = h * 2 := by rw [hn, Nat.pow_succ, hh]
    have hq : (n : Int).tdiv 2 = (h : Int) := by rw [Int.tdiv_eq_ediv_of_nonneg (by omega)]; omega
    have hwh : IntKind.u64.wrap (h : Int) = (h : Int) := by rw [IntKind.wrap_u64]; omega
    have hwa : IntKind.u64.wrap ((a : Int) + (h : Int)) = (a : Int) + (h : Int) := by rw [IntKind.wrap_u64]; omega
    simp only [Tr.depth] at hd
    simp only [Tr.nodes] at hl
    have HR : Hid (l ++ ranges (.node x y) a n = (l ++ ranges x a h) ++ ranges y (a + h) h) := by
      show _ = _
      simp only [ranges, show n / 2 = h by omega, List.append_assoc]
    have hlx : (ranges x a h).length ≤ x.nodes := by rw [← hh]; exact ranges_len x k a
    have hB0 : Below base w (w.alloc (.cells #[.bool false, .slice (some ⟨b, off, none⟩) 2 c1] 24)) := (Below.refl _ w).alloc hbase _
    have hBt : Below w.heap.size w (w.alloc (.cells #[.bool false, .slice (some ⟨b, off, none⟩) 2 c1] 24)) := (Below.refl _ w).alloc (Nat.le_refl _) _
    have hbox : (w.alloc (.cells #[.bool false, .slice (some ⟨b, off, none⟩) 2 c1] 24)).heap[w.heap.size]? = some (.cells #[.bool false, .slice (some ⟨b, off, none⟩) 2 c1] 24 (0, 0)) := heap_alloc_new w _
    have m1 := (hB0.cell (p := ⟨b, off, none⟩) hb).trans e1
    have m2 := (hB0.cell (p := ⟨b, off + 1, none⟩) hb).trans e2
    have hc1 := ihx k h a A c l base (tv o1 A1 n1 d1) (w.alloc (.cells #[.bool false, .slice (some ⟨b, off, none⟩) 2 c1] 24)) (by omega) hh.symm (by omega) (by omega) (e3.below hB0) (hg.below hBt (Nat.le_refl _)) (by simp; omega)
    unfold tv at hc1
    obtain ⟨L, hL⟩ : ∃ L, l ++ ranges x a h = L := ⟨_, rfl⟩
    have hLl : L.length ≤ l.length + x.nodes := by rw [← hL, List.length_append]; omega
    rw [hL] at hc1 HR
    have HB0 := Lib.hid hB0
    have HBX := Lib.hid hbox
    have HBB := Lib.hid hb
    have H2 := Lib.hid hn2
    have HHH := Lib.hid hh
    clear hg ihx hh e1 e2 e3 hB0 hBt hbox hn hn2 hL hlx hb
    go_enter Tryz.func128, Tryz.ntmps128
    go_wp2_with fail
    refine hc1.mono ?_
    rintro e w2 ⟨A3, c3, rfl, hg3, hb3, hf3⟩
    have hbox2 := hf3.cell HBX.out (by decide)
    have c0 : w2.cell? ⟨w.heap.size, 0, none⟩ = some (.bool false) := by rw [cell_of_row w2 _ 0 _ 24 (0, 0) hbox2]; rfl
    have c1' : w2.cell? ⟨w.heap.size, 1, none⟩ = some (.slice (some ⟨b, off, none⟩) 2 c1) := by rw [cell_of_row w2 _ 1 _ 24 (0, 0) hbox2]; rfl
    have hB2 : Below base w w2 := HB0.out.trans hb3
    have m3 := (hB2.cell (p := ⟨b, off + 2, none⟩) HBB.out).trans g1
    have m4 := (hB2.cell (p := ⟨b, off + 2 + 1, none⟩) HBB.out).trans g2
    have hc2 := ihy k h (a + h) A3 c3 L base (tv o2 A2 n2 d2) w2 (by omega) HHH.out.symm (by have := H2.out; omega) (by omega) (g3.below hB2) hg3 (Nat.le_trans hbase hB2.size)
    unfold tv at hc2
    simp only [show ((a + h : Nat) : Int) = (a : Int) + (h : Int) by omega] at hc2
    have HB2 := Lib.hid hB2
    have HF3 : Hid (Fr w w2) := (Fr.alloc w _).trans hf3
    have hh2 := H2.out
    clear m1 m2 hc1 hg3 hb3 hf3 hbox2 hB2 g1 g2 g3 ihy
    go_wp2_with fail
    refine hc2.mono ?_
    rintro e w4 ⟨A5, c5, rfl, hg5, hb5, hf5⟩
    go_wp2
    go_ret
    refine ⟨A5, c5, ?_, ?_, HB2.out.trans hb5, HF3.out.trans hf5⟩
    · rw [HR.out, List.length_append]; rfl
    · rw [HR.out]; exact hg5

set_option maxRecDepth 100000 in
set_option maxHeartbeats 800000 in
theorem means_any (t : Tr) (v : Value) (w : World) (hd : t.depth ≤ 32) (hn : t.nodes ≤ 2047) (ht : InT w w.heap.size t v) : Calls Tryz.prog 67 #[v] w (LaysR (ranges t 0 4294967296) w.heap.size w) := by
  obtain ⟨o, A, n, c, rfl⟩ := ht.form
  have hb0 : Below w.heap.size w (w.alloc (.cells #[.bool o, .slice A n c] 24)) := (Below.refl _ w).alloc (Nat.le_refl _) _
  have hcall := ranges_any t 32 4294967296 0 none 0 [] w.heap.size (tv o A n c) (w.alloc (.cells #[.bool o, .slice A n c] 24)) hd rfl (by omega) (by simp; omega) (ht.below hb0) (GrR.nil _ _) (by simp)
  rw [List.nil_append] at hcall
  unfold tv at hcall ⊢
  simp only [List.length_nil, Int.natCast_zero] at hcall
  have HB0 := Lib.hid hb0
  clear hb0 ht
  go_enter Tryz.func67, Tryz.ntmps67
  go_wp2_with fail
  refine hcall.mono ?_
  rintro e w1 ⟨A1, c1, rfl, hg1, hb1, hf1⟩
  go_wp2
  go_ret
  exact ⟨A1, c1, rfl, hg1, HB0.out.trans hb1, (Fr.alloc w _).trans hf1⟩
set_option maxRecDepth 100000 in
set_option maxHeartbeats 800000 in
theorem leaf_any (o : Bool) (w : World) : Calls Tryz.prog 130 #[.bool o] w fun e w' => e = .returned (tv o none 0 0) ∧ Below w.heap.size w w' := by
  go_enter Tryz.func130, Tryz.ntmps130
  go_wp2
  refine bodyPost_ret (v := tv o none 0 0) (by simp [results, Tryz.f130, go_sem, tv]) rfl ?_
  exact ⟨rfl, (Below.refl _ w).alloc (Nat.le_refl _) _⟩
/-- A call that hands back a tree. -/
def Trees (t : Tr) (w : World) (e : Ending) (w' : World) : Prop := ∃ v, e = .returned v ∧ InT w' w'.heap.size t v ∧ Below w.heap.size w w'
theorem two_in {w W : World} {x y : Tr} {o1 o2 : Bool} {A1 A2 : Option Addr} {n1 n2 c1 c2 g : Nat} (hb : Below w.heap.size w W) (hg : W.heap[g]? = some (.cells #[.bool o1, .slice A1 n1 c1, .bool o2, .slice A2 n2 c2] 24 (0, 0))) (hx : InT w w.heap.size x (tv o1 A1 n1 c1)) (hy : InT w w.heap.size y (tv o2 A2 n2 c2)) :
    InT W W.heap.size (.node x y) (tv false (some ⟨g, 0, none⟩) 2 2) := by
  refine ⟨g, 0, 2, rfl, (Array.getElem?_eq_some_iff.1 hg).1, ⟨o1, A1, n1, c1, ?_, ?_, hx.up hb⟩, ⟨o2, A2, n2, c2, ?_, ?_, hy.up hb⟩⟩
  · rw [cell_of_row W g 0 _ 24 (0, 0) hg]; rfl
  · rw [cell_of_row W g 1 _ 24 (0, 0) hg]; rfl
  · rw [cell_of_row W g 2 _ 24 (0, 0) hg]; rfl
  · rw [cell_of_row W g 3 _ 24 (0, 0) hg]; rfl
theorem three_boxes (w : World) (o1 o2 o3 : Obj) : Below w.heap.size w (((w.alloc o1).alloc o2).alloc o3) := (((Below.refl _ w).alloc (Nat.le_refl _) _).alloc (by simp) _).alloc (by simp; omega) _
theorem four_boxes (w : World) (o1 o2 o3 o4 : Obj) : Below w.heap.size w ((((w.alloc o1).alloc o2).alloc o3).alloc o4) := (three_boxes w o1 o2 o3).alloc (by simp; omega) _
set_option maxRecDepth 100000 in
set_option maxHeartbeats 800000 in
theorem node_no (x y : Tr) (o1 o2 : Bool) (A1 A2 : Option Addr) (n1 n2 c1 c2 : Nat) (w : World) (hx : InT w w.heap.size x (tv o1 A1 n1 c1)) (hy : InT w w.heap.size y (tv o2 A2 n2 c2)) (hne : ¬ (n1 = 0 ∧ n2 = 0 ∧ o1 = o2)) : Calls Tryz.prog 131 #[tv o1 A1 n1 c1, tv o2 A2 n2 c2] w (Trees (.node x y) w) := by
  have HX := Lib.hid hx
  have HY := Lib.hid hy
  clear hx hy
  unfold tv
  by_cases h1 : n1 = 0
  · by_cases h2 : n2 = 0
    · have h3 : ¬ o1 = o2 := fun h => hne ⟨h1, h2, h⟩
      have h3b : (o1 == o2) = false := beq_eq_false_iff_ne.2 h3
      subst h1; subst h2
      clear hne h3
      go_enter Tryz.func131, Tryz.ntmps131
      go_wp2
      refine bodyPost_ret (v := tv false (some ⟨w.heap.size + 1 + 1 + 1, 0, none⟩) 2 2) (by simp [results, Tryz.f131, go_sem, tv]) rfl ?_
      exact ⟨_, rfl, two_in (four_boxes w _ _ _ _) (by have := heap_alloc_new (((w.alloc (.cells #[.bool o1, .slice A1 0 c1] 24)).alloc (.cells #[.bool o2, .slice A2 0 c2] 24)).alloc (.cells #[.bool false, .slice (some ⟨w.heap.size + 1 + 1 + 1, 0, none⟩) 2 2] 24)) (.cells #[.bool o1, .slice A1 0 c1, .bool o2, .slice A2 0 c2] 24); simpa only [World.size_alloc] using this) HX.out HY.out, four_boxes w _ _ _ _⟩
    · have h2b : ((n2 : Int) == 0) = false := beq_eq_false_iff_ne.2 (by omega)
      subst h1
      clear hne
      go_enter Tryz.func131, Tryz.ntmps131
      go_wp2
      refine bodyPost_ret (v := tv false (some ⟨w.heap.size + 1 + 1 + 1, 0, none⟩) 2 2) (by simp [results, Tryz.f131, go_sem, tv]) rfl ?_
      exact ⟨_, rfl, two_in (four_boxes w _ _ _ _) (by have := heap_alloc_new (((w.alloc (.cells #[.bool o1, .slice A1 0 c1] 24)).alloc (.cells #[.bool o2, .slice A2 n2 c2] 24)).alloc (.cells #[.bool false, .slice (some ⟨w.heap.size + 1 + 1 + 1, 0, none⟩) 2 2] 24)) (.cells #[.bool o1, .slice A1 0 c1, .bool o2, .slice A2 n2 c2] 24); simpa only [World.size_alloc] using this) HX.out HY.out, four_boxes w _ _ _ _⟩
  · have h1b : ((n1 : Int) == 0) = false := beq_eq_false_iff_ne.2 (by omega)
    clear hne
    go_enter Tryz.func131, Tryz.ntmps131
    go_wp2
    refine bodyPost_ret (v := tv false (some ⟨w.heap.size + 1 + 1 + 1, 0, none⟩) 2 2) (by simp [results, Tryz.f131, go_sem, tv]) rfl ?_
    exact ⟨_, rfl, two_in (four_boxes w _ _ _ _) (by have := heap_alloc_new (((w.alloc (.cells #[.bool o1, .slice A1 n1 c1] 24)).alloc (.cells #[.bool o2, .slice A2 n2 c2] 24)).alloc (.cells #[.bool false, .slice (some ⟨w.heap.size + 1 + 1 + 1, 0, none⟩) 2 2] 24)) (.cells #[.bool o1, .slice A1 n1 c1, .bool o2, .slice A2 n2 c2] 24); simpa only [World.size_alloc] using this) HX.out HY.out, four_boxes w _ _ _ _⟩
set_option maxRecDepth 100000 in
set_option maxHeartbeats 800000 in
theorem node_any (x y : Tr) (u v : Value) (w : World) (hx : InT w w.heap.size x u) (hy : InT w w.heap.size y v) : Calls Tryz.prog 131 #[u, v] w (Trees (x.mk2 y) w) := by
  cases x with
  | leaf o =>
    have hx' := hx
    obtain ⟨A1, c1, rfl⟩ := hx
    cases y with
    | leaf o2 =>
      have hy' := hy
      obtain ⟨A2, c2, rfl⟩ := hy
      by_cases h : o = o2
      · subst h
        rw [Tr.mk2_same]
        unfold tv
        go_enter Tryz.func131, Tryz.ntmps131
        go_wp2
        refine bodyPost_ret (v := tv o A1 0 c1) (by simp [results, Tryz.f131, go_sem, tv]) rfl ?_
        exact ⟨_, rfl, ⟨A1, c1, rfl⟩, three_boxes w _ _ _⟩
      · rw [show (Tr.leaf o).mk2 (.leaf o2) = .node (.leaf o) (.leaf o2) by simp [Tr.mk2, h]]
        exact node_no _ _ _ _ _ _ _ _ _ _ w hx' hy' (fun e => h e.2.2)
    | node y1 y2 =>
      have hy' := hy
      obtain ⟨b, off, c, rfl, _⟩ := hy
      exact node_no _ _ _ _ _ _ _ _ _ _ w hx' hy' (fun e => by cases e.2.1)
  | node x1 x2 =>
    have hx' := hx
    obtain ⟨b, off, c, rfl, _⟩ := hx
    obtain ⟨o, A, n, c, rfl⟩ := hy.form
    rw [show (Tr.node x1 x2).mk2 y = .node (.node x1 x2) y by cases y <;> rfl]
    exact node_no _ _ _ _ _ _ _ _ _ _ w hx' hy (fun e => by cases e.1)
end Go.Proofs.YtoaglkjpjolacaaGreatDoor.I
namespace Go.Proofs.YtoaglkjpjolacaaGreatDoor.I
open Go.RowKit
theorem RowR.at {w : World} {A : Option Addr} {l : List (Nat × Nat)} (h : RowR w w.heap.size A l) (j : Nat) (hj : j < l.length) : ∃ b off, A = some ⟨b, off, none⟩ ∧ b < w.heap.size ∧ Hid (∀ W, Below w.heap.size w W → W.cell? ⟨b, off + j * 2, none⟩ = some (.int .u64 ((l[j]'hj).1 : Int)) ∧ W.cell? ⟨b, off + j * 2 + 1, none⟩ = some (.int .u64 ((l[j]'hj).2 : Int))) := by
  obtain ⟨b, off, e, hb, hc⟩ := h (by omega)
  obtain ⟨h1, h2⟩ := hc j _ (List.getElem?_eq_getElem hj)
  exact ⟨b, off, e, hb, fun W hW => ⟨(hW.cell hb).trans h1, (hW.cell hb).trans h2⟩⟩

set_option maxRecDepth 100000 in
set_option maxHeartbeats 3200000 in
theorem within_any (A : Option Addr) (c : Nat) (l : List (Nat × Nat)) (a n : Nat) (w : World) (hr : RowR w w.heap.size A l) (hl : l.length ≤ 1000000) (hv : ∀ r ∈ l, r.1 ≤ 1000000000000 ∧ r.2 ≤ 1000000000000) (ha : a + n ≤ 1000000000000) :
    Calls Tryz.prog 129 #[.slice A l.length c, .int .u64 (a : Int), .int .u64 (n : Int)] w fun e w' => ∃ A' c', e = .returned (.slice A' (withinL l a n).length c') ∧ GrR w' w.heap.size A' c' (withinL l a n) ∧ Below w.heap.size w w' := by
  have HR := Lib.hid hr
  clear hr
  go_enter Tryz.func129, Tryz.ntmps129
  go_wp2
  go_loopg [7, 8] l.length (fun k o i wr => ∃ (j : Nat) (L : List (Nat × Nat)) (B : Option Addr) (d : Nat), j ≤ l.length ∧ k = l.length - j ∧ i = .int .i64 j ∧ o = .slice B L.length d ∧ Hid (L = withinL (l.take j) a n) ∧ L.length ≤ j ∧ Hid (GrR wr w.heap.size B d L) ∧ Hid (Below w.heap.size w wr))
  case atStart => exact ⟨0, [], none, 0, by omega, by omega, rfl, rfl, by show _ = _; simp [withinL], by simp, GrR.nil _ _, Below.refl _ _⟩
  case round =>
    obtain ⟨j, L, B, d, hj, hgk, rfl, rfl, hL, hLj, hG, hB⟩ := hrel
    have HGK := Lib.hid hgk; clear hgk
    by_cases hlt : j < l.length
    · obtain ⟨b, off, rfl, hb, F1⟩ := HR.out.at j hlt
      obtain ⟨hv1, hv2⟩ := hv _ (List.getElem_mem hlt)
      have HT : Hid (withinL (l.take (j + 1)) a n = withinL (l.take j) a n ++ (if (cutR (l[j]'hlt) a n).1 < (cutR (l[j]'hlt) a n).2 then [cutR (l[j]'hlt) a n] else [])) := by
        show _ = _
        rw [List.take_succ_eq_append_getElem hlt]
        unfold withinL
        rw [List.map_append, List.filter_append]
        congr 1
        by_cases h : (cutR (l[j]'hlt) a n).1 < (cutR (l[j]'hlt) a n).2 <;> simp [h]
      obtain ⟨x, hx⟩ : ∃ x, (l[j]'hlt).1 = x := ⟨_, rfl⟩
      obtain ⟨y, hy⟩ : ∃ y, (l[j]'hlt).2 = y := ⟨_, rfl⟩
      have hcut : cutR (l[j]'hlt) a n = (max x a, min y (a + n)) := by unfold cutR; rw [hx, hy]
      simp only [hx, hy] at F1 hv1 hv2
      rw [hcut] at HT
      obtain ⟨f, hf⟩ : ∃ f, max x a = f := ⟨_, rfl⟩
      obtain ⟨t, ht⟩ : ∃ t, min y (a + n) = t := ⟨_, rfl⟩
      rw [hf, ht] at HT
      simp only at HT
      have hwan : IntKind.u64.wrap ((a : Int) + (n : Int)) = (a : Int) + (n : Int) := by rw [IntKind.wrap_u64]; omega
      have hmx : (if x < a then (a : Int) else (x : Int)) = (f : Int) := by rw [← hf]; split <;> omega
      have hmn : (if (a : Int) + (n : Int) < (y : Int) then (a : Int) + (n : Int) else (y : Int)) = (t : Int) := by rw [← ht]; split <;> omega
      clear hcut hx hy hf ht
      go_wp2
      refine wp_region_held_drew (S := fun W => Below w.heap.size w W) (by kernel_rfl) (hB.out.drew) (fun hS => ?_)
      refine wpAnyH_take (i := 0) (v := ?_) rfl (by kernel_rfl) (by kernel_rfl) (by kernel_rfl) (fun _ _ _ h => h) (Yields.yieldsIf (Or.inl ⟨by kernel_rfl, ?_⟩)) hS ?_
      rotate_left
      · first | (intro w; go_simp; done) | (intro w; go_simp; with_reducible rfl)
      refine wpAnyH_take (i := 1) (v := ?_) rfl (by kernel_rfl) (by kernel_rfl) (by kernel_rfl) (fun _ _ _ h => h) (Yields.yieldsIf (Or.inl ⟨by kernel_rfl, ?_⟩)) hS ?_
      rotate_left
      · first | (intro w; go_simp; done) | (intro w; go_simp; with_reducible rfl)
      refine wpAnyH_take (i := 2) (v := ?_) rfl (by kernel_rfl) (by kernel_rfl) (by kernel_rfl) (fun _ _ _ h => h) (Yields.yieldsIf (Or.inl ⟨by kernel_rfl, ?_⟩)) hS ?_
      rotate_left
      · first | (intro w; go_simp; done) | (intro w; go_simp; with_reducible rfl)
      refine wpAnyH_take (i := 3) (v := ?_) rfl (by kernel_rfl) (by kernel_rfl) (by kernel_rfl) (fun _ _ _ h => h) (Yields.yieldsIf (Or.inl ⟨by kernel_rfl, ?_⟩)) hS ?_
      rotate_left
      · first | (intro w; go_simp; done) | (intro w; go_simp; with_reducible rfl)
      refine wpAnyH_take (i := 4) (v := ?_) rfl (by kernel_rfl) (by kernel_rfl) (by kernel_rfl) (fun _ _ _ h => h) (Or.inl ⟨by kernel_rfl, fun W hW => ?_⟩) hS ?_
      rotate_left
      · obtain ⟨f0, f1⟩ := F1.out W hW
        first | (go_simp; done) | (go_simp; with_reducible rfl)
      refine wpAnyH_take (i := 5) (v := ?_) rfl (by kernel_rfl) (by kernel_rfl) (by kernel_rfl) (fun _ _ _ h => h) (Yields.yieldsIf (Or.inl ⟨by kernel_rfl, ?_⟩)) hS ?_
      rotate_left
      · first | (intro w; go_simp; done) | (intro w; go_simp; with_reducible rfl)
      refine wpAnyH_take (i := 6) (v := ?_) rfl (by kernel_rfl) (by kernel_rfl) (by kernel_rfl) (fun _ _ _ h => h) (Yields.yieldsIf (Or.inl ⟨by kernel_rfl, ?_⟩)) hS ?_
      rotate_left
      · first | (intro w; go_simp; done) | (intro w; go_simp; with_reducible rfl)
      refine wpAnyH_take (i := 7) (v := ?_) rfl (by kernel_rfl) (by kernel_rfl) (by kernel_rfl) (fun _ _ _ h => h) (Yields.yieldsIf (Or.inl ⟨by kernel_rfl, ?_⟩)) hS ?_
      rotate_left
      · first | (intro w; go_simp; done) | (intro w; go_simp; with_reducible rfl)
      refine wpAnyH_take (i := 8) (v := ?_) rfl (by kernel_rfl) (by kernel_rfl) (by kernel_rfl) (fun _ _ _ h => h) (Yields.yieldsIf (Or.inl ⟨by kernel_rfl, ?_⟩)) hS ?_
      rotate_left
      · first | (intro w; go_simp; done) | (intro w; go_simp; with_reducible rfl)
      refine wpAnyH_take (i := 9) (v := ?_) rfl (by kernel_rfl) (by kernel_rfl) (by kernel_rfl) (fun _ _ _ h => h) (Yields.yieldsIf (Or.inl ⟨by kernel_rfl, ?_⟩)) hS ?_
      rotate_left
      · first | (intro w; go_simp; done) | (intro w; go_simp; with_reducible rfl)
      refine wpAnyH_take (i := 10) (v := ?_) rfl (by kernel_rfl) (by kernel_rfl) (by kernel_rfl) (fun _ _ _ h => h) (Yields.yieldsIf (Or.inl ⟨by kernel_rfl, ?_⟩)) hS ?_
      rotate_left
      · first | (intro w; go_simp; done) | (intro w; go_simp; with_reducible rfl)
      refine wpAnyH_take (i := 11) (v := ?_) rfl (by kernel_rfl) (by kernel_rfl) (by kernel_rfl) (fun _ _ _ h => h) (Or.inl ⟨by kernel_rfl, fun W hW => ?_⟩) hS ?_
      rotate_left
      · obtain ⟨f0, f1⟩ := F1.out W hW
        first | (go_simp; done) | (go_simp; with_reducible rfl)
      refine wpAnyH_take (i := 12) (v := ?_) rfl (by kernel_rfl) (by kernel_rfl) (by kernel_rfl) (fun _ _ _ h => h) (Yields.yieldsIf (Or.inl ⟨by kernel_rfl, ?_⟩)) hS ?_
      rotate_left
      · first | (intro w; go_simp; done) | (intro w; go_simp; with_reducible rfl)
      refine wpAnyH_take (i := 13) (v := ?_) rfl (by kernel_rfl) (by kernel_rfl) (by kernel_rfl) (fun _ _ _ h => h) (Yields.yieldsIf (Or.inl ⟨by kernel_rfl, ?_⟩)) hS ?_
      rotate_left
      · first | (intro w; go_simp; done) | (intro w; go_simp; with_reducible rfl)
      refine wpAnyH_take (i := 14) (v := ?_) rfl (by kernel_rfl) (by kernel_rfl) (by kernel_rfl) (fun _ _ _ h => h) (Yields.yieldsIf (Or.inl ⟨by kernel_rfl, ?_⟩)) hS ?_
      rotate_left
      · first | (intro w; go_simp; done) | (intro w; go_simp; with_reducible rfl)
      refine wpAnyH_take (i := 15) (v := ?_) rfl (by kernel_rfl) (by kernel_rfl) (by kernel_rfl) (fun _ _ _ h => h) (Yields.yieldsIf (Or.inl ⟨by kernel_rfl, ?_⟩)) hS ?_
      rotate_left
      · first | (intro w; go_simp; done) | (intro w; go_simp; with_reducible rfl)
      refine wpAnyH_take (i := 16) (v := ?_) rfl (by kernel_rfl) (by kernel_rfl) (by kernel_rfl) (fun _ _ _ h => h) (Yields.yieldsIf (Or.inl ⟨by kernel_rfl, ?_⟩)) hS ?_
      rotate_left
      · first | (intro w; go_simp; done) | (intro w; go_simp; with_reducible rfl)
      refine wpAnyH_ready (rs := [17]) (by kernel_rfl) (by simp) ?_
      refine AllReadyH.cons rfl (fun K hK => ?_) AllReadyH.nil
      go_simp
      refine hK.out _ _ ((hB.out.alloc hB.out.size _).drew) (fun hS => ?_)
      clear hK K
      refine wpAnyH_ready (rs := [18]) (by kernel_rfl) (by simp) ?_
      refine AllReadyH.cons rfl (fun K hK => ?_) AllReadyH.nil
      go_simp
      have hS2 : Below w.heap.size w (wr.alloc (.cells #[.int .u64 (f : Int), .int .u64 (t : Int)] 148)).drew := (hB.out.alloc hB.out.size _).drew
      refine hK.out _ _ hS2 (fun hS => ?_)
      clear hK K hS2
      refine wpAnyH_done (by kernel_rfl) ?_ _
      have hG5 : GrR (wr.alloc (.cells #[.int .u64 (f : Int), .int .u64 (t : Int)] 148)).drew w.heap.size B d L := hG.out.below (((Below.refl _ wr).alloc (Nat.le_refl _) _).drew) (Nat.le_refl _)
      have c0 : (wr.alloc (.cells #[.int .u64 (f : Int), .int .u64 (t : Int)] 148)).drew.cell? ⟨wr.heap.size, 0, none⟩ = some (.int .u64 (f : Int)) := by simp [go_sem]
      have c1 : (wr.alloc (.cells #[.int .u64 (f : Int), .int .u64 (t : Int)] 148)).drew.cell? ⟨wr.heap.size, 1, none⟩ = some (.int .u64 (t : Int)) := by simp [go_sem]
      have HG5 := Lib.hid hG5
      have HB5 := Lib.hid hS
      clear hG5 hS
      generalize (wr.alloc (.cells #[.int .u64 (f : Int), .int .u64 (t : Int)] 148)).drew = W5 at *
      by_cases hft : f < t
      · rw [if_pos hft, ← hL.out] at HT
        obtain ⟨B6, d6, w6, hap, hg6, hb6, _⟩ := HG5.out.one (f, t) 87 (by omega) HB5.out.size
        have HAP := Lib.hid hap
        have HG6 := Lib.hid hg6
        have HB6 : Hid (Below w.heap.size w w6) := HB5.out.trans hb6
        clear hap hg6 hb6
        go_wp2_with (at_builtin; refine wpList_append_run rfl _ _ _ _ rfl _ _ rfl rfl HAP.out ?_; clear HAP)
        go_roundg (l.length - (j + 1))
        case measure => have := HGK.out; omega
        case rel => exact ⟨j + 1, L ++ [(f, t)], B6, d6, by omega, rfl, by go_num, by simp, HT.out.symm, by simp; omega, HG6, HB6⟩
      · rw [if_neg hft, List.append_nil, ← hL.out] at HT
        go_wp2
        go_roundg (l.length - (j + 1))
        case measure => have := HGK.out; omega
        case rel => exact ⟨j + 1, L, B, d, by omega, rfl, by go_num, rfl, HT.out.symm, by omega, HG5, HB5⟩
    · obtain rfl : j = l.length := by omega
      have HL : Hid (L = withinL l a n) := by show _ = _; rw [hL.out, List.take_length]
      go_wp2
      go_ret
      refine ⟨B, d, ?_, ?_, hB.out⟩
      · rw [← HL.out]; rfl
      · rw [← HL.out]; exact hG.out
end Go.Proofs.YtoaglkjpjolacaaGreatDoor.I
namespace Go.Proofs.YtoaglkjpjolacaaGreatDoor.I
open Go.RowKit
theorem below_drewN {B : Nat} {a w : World} (h : Below B a w) (n : Nat) : Below B a (w.drewN n) := by
  induction n with
  | zero => exact h
  | succ n ih => exact ih.drew
/-- A variable of two cells that is no part of a tree may be written. -/
def Box2 (w : World) (g : Nat) : Prop := ∃ cs : Array Value, w.heap[g]? = some (.cells cs 24 (0, 0)) ∧ cs.size = 2
theorem Box2.off {w : World} {g : Nat} (h : Box2 w g) {i : Nat} (hi : 2 ≤ i) : w.cell? ⟨g, i, none⟩ = none := by
  obtain ⟨cs, h1, h2⟩ := h
  rw [cell_of_row w g i cs 24 (0, 0) h1]
  exact Array.getElem?_eq_none (by omega)
theorem Box2.set {w : World} {g i : Nat} (h : Box2 w g) (u : Value) : Box2 (w.setCell ⟨g, i, none⟩ u) g := by
  obtain ⟨cs, h1, h2⟩ := h
  exact ⟨cs.setIfInBounds i u, by simp [World.setCell, Array.getElem?_modify, h1], by simpa using h2⟩
theorem Box2.below {w w' : World} {g B : Nat} (h : Box2 w g) (hb : Below B w w') (hg : g < B) : Box2 w' g := by
  obtain ⟨cs, h1, h2⟩ := h
  exact ⟨cs, (hb.block g hg).trans h1, h2⟩
theorem InT.set2 {w : World} {B g i : Nat} {u : Value} (h2 : Box2 w g) : ∀ {t : Tr} {v : Value}, InT w B t v → InT (w.setCell ⟨g, i, none⟩ u) B t v
  | .leaf _, _, h => h
  | .node _ _, _, ⟨b, off, c, e, hb, ⟨o1, A1, n1, c1, k1, k2, k3⟩, ⟨o2, A2, n2, c2, g1, g2, g3⟩⟩ => by
    have hne : b ≠ g := by
      rintro rfl
      rw [h2.off (by omega)] at g1; cases g1
    have hk : ∀ j, (w.setCell ⟨g, i, none⟩ u).cell? ⟨b, j, none⟩ = w.cell? ⟨b, j, none⟩ := fun j => World.cell?_setCell_other _ _ _ _ (fun e => by injection e with e1 _ _; exact hne e1.symm)
    exact ⟨b, off, c, e, hb, ⟨o1, A1, n1, c1, (hk _).trans k1, (hk _).trans k2, InT.set2 h2 k3⟩, ⟨o2, A2, n2, c2, (hk _).trans g1, (hk _).trans g2, InT.set2 h2 g3⟩⟩
theorem sum_take (l : List (Nat × Nat)) (j : Nat) (hj : j < l.length) : ((l.take (j + 1)).map fun r => r.2 - r.1).sum = ((l.take j).map fun r => r.2 - r.1).sum + ((l[j]'hj).2 - (l[j]'hj).1) := by
  rw [List.take_succ_eq_append_getElem hj, List.map_append, List.sum_append]
  simp only [List.map_cons, List.map_nil, List.sum_cons, List.sum_nil]
  omega
theorem sum_take_le (l : List (Nat × Nat)) (j : Nat) : ((l.take j).map fun r => r.2 - r.1).sum ≤ (l.map fun r => r.2 - r.1).sum := by
  conv => rhs; rw [← List.take_append_drop j l]
  rw [List.map_append, List.sum_append]; omega
theorem mass_within_le (l : List (Nat × Nat)) (a n b m : Nat) : mass (withinL l a n) b m ≤ mass l b m := by
  induction l with
  | nil => exact Nat.le_refl _
  | cons r l ih =>
    have e : withinL (r :: l) a n = (if (cutR r a n).1 < (cutR r a n).2 then [cutR r a n] else []) ++ withinL l a n := by
      unfold withinL
      rw [List.map_cons, List.filter_cons]
      by_cases h : (cutR r a n).1 < (cutR r a n).2 <;> simp [h]
    rw [e, mass_append, mass_cons]
    refine Nat.add_le_add ?_ ih
    split
    · rw [mass_cons, mass_nil]
      unfold clip cutR
      simp only
      omega
    · rw [mass_nil]; omega
theorem within_len (l : List (Nat × Nat)) (a n : Nat) : (withinL l a n).length ≤ l.length := by
  unfold withinL
  exact Nat.le_trans (List.length_filter_le _ _) (by simp)
theorem within_val (l : List (Nat × Nat)) (a n : Nat) (ha : a + n ≤ 1000000000000) : ∀ r ∈ withinL l a n, r.1 ≤ r.2 ∧ r.2 ≤ 1000000000000 := by
  intro r hr
  unfold withinL at hr
  obtain ⟨h1, h2⟩ := List.mem_filter.1 hr
  obtain ⟨x, _, rfl⟩ := List.mem_map.1 h1
  have := of_decide_eq_true h2
  unfold cutR at this ⊢
  simp only at this ⊢
  omega
/-- What tree answers: written into its result's variable. -/
def Box0 (w : World) (g : Nat) : Prop := w.heap[g]? = some (.cells #[.bool false, .slice none 0 0] 24 (0, 0))
theorem box_start (w : World) : Box0 (w.alloc (.cells #[.bool false, .slice none 0 0] 24)) w.heap.size := heap_alloc_new w _
theorem Box0.below {w w' : World} {g B : Nat} (h : Box0 w g) (hb : Below B w w') (hg : g < B) : Box0 w' g := (hb.block g hg).trans h
theorem Box0.facts {w : World} {g : Nat} (h : Box0 w g) : (w.cell? ⟨g, 0, none⟩ = some (.bool false) ∧ w.cell? ⟨g, 1, none⟩ = some (.slice none 0 0)) ∧ w.frozen? ⟨g, 0, none⟩ = false ∧ w.frozen? ⟨g, 1, none⟩ = false := by
  refine ⟨⟨?_, ?_⟩, ?_, ?_⟩
  · rw [cell_of_row w g 0 _ 24 (0, 0) h]; rfl
  · rw [cell_of_row w g 1 _ 24 (0, 0) h]; rfl
  · simp [World.frozen?, show w.heap[g]? = _ from h]
  · simp [World.frozen?, show w.heap[g]? = _ from h]
theorem Box0.two {w : World} {g : Nat} (h : Box0 w g) : Box2 w g := ⟨_, h, rfl⟩
/-- A tree that was stored into a variable of two cells. -/
theorem store_in {w W : World} {B g : Nat} {t : Tr} {v u1 u2 : Value} (hg : Box0 W g) (h : InT W W.heap.size t v) (hb : Below B w W) (hB : B ≤ g) : InT ((W.setCell ⟨g, 0, none⟩ u1).setCell ⟨g, 1, none⟩ u2) ((W.setCell ⟨g, 0, none⟩ u1).setCell ⟨g, 1, none⟩ u2).heap.size t v ∧ Below B w ((W.setCell ⟨g, 0, none⟩ u1).setCell ⟨g, 1, none⟩ u2) := by
  refine ⟨?_, (hb.setCell (p := ⟨g, 0, none⟩) hB _).setCell (p := ⟨g, 1, none⟩) hB _⟩
  have h1 := InT.set2 (i := 1) (u := u2) (hg.two.set u1) (InT.set2 (i := 0) (u := u1) hg.two h)
  have e : ((W.setCell ⟨g, 0, none⟩ u1).setCell ⟨g, 1, none⟩ u2).heap.size = W.heap.size := by simp
  rw [e]; exact h1
theorem build_zero {μ : Nat → Nat → Nat} {k a : Nat} (h : μ a k = 0) : Tr.build μ k a = .leaf false := by cases k <;> simp [Tr.build, h]
theorem build_full {μ : Nat → Nat → Nat} {k a : Nat} (h : μ a k = 2 ^ k) : Tr.build μ k a = .leaf true := by
  have hp := Nat.two_pow_pos k
  cases k with
  | zero => simp [Tr.build, h]
  | succ k =>
    simp only [Tr.build, h]
    rw [if_neg (by omega), if_pos trivial]
theorem build_mid {μ : Nat → Nat → Nat} {k a : Nat} (h0 : μ a (k + 1) ≠ 0) (h1 : μ a (k + 1) ≠ 2 ^ (k + 1)) : Tr.build μ (k + 1) a = (Tr.build μ k a).mk2 (Tr.build μ k (a + 2 ^ k)) := by
  simp only [Tr.build]; rw [if_neg h0, if_neg h1]

set_option maxRecDepth 100000 in
set_option maxHeartbeats 3200000 in
theorem tree_any (k : Nat) : ∀ (A : Option Addr) (c : Nat) (l : List (Nat × Nat)) (a n : Nat) (w : World), n = 2 ^ k → a + n ≤ 1000000000000 → RowR w w.heap.size A l → l.length ≤ 1000000 → (∀ r ∈ l, r.1 ≤ 1000000000000 ∧ r.2 ≤ 1000000000000) → (∀ b j, mu l b j ≤ 2 ^ j) →
    Calls Tryz.prog 69 #[.slice A l.length c, .int .u64 (a : Int), .int .u64 (n : Int)] w (Trees (Tr.build (mu l) k a) w) := by
  induction k using Nat.strongRecOn with
  | _ k ih =>
  intro A c l a n w hn ha hr hl hv hmu
  have hb0 : Below w.heap.size w (w.alloc (.cells #[.bool false, .slice none 0 0] 24)) := (Below.refl _ w).alloc (Nat.le_refl _) _
  have hw := within_any A c l a n (w.alloc (.cells #[.bool false, .slice none 0 0] 24)) (hr.up hb0) hl hv ha
  have hsum : ((withinL l a n).map fun r => r.2 - r.1).sum = mu l a k := by rw [← mass_sum, mass_within l a n a n (Nat.le_refl _) (Nat.le_refl _), hn]; rfl
  have hm := hmu a k
  rw [← hn] at hm
  have hlen := within_len l a n
  have hval := within_val l a n ha
  have hmuO : ∀ b j, a ≤ b → b + 2 ^ j ≤ a + n → mu (withinL l a n) b j = mu l b j := fun b j h1 h2 => mass_within l a n b (2 ^ j) h1 h2
  obtain ⟨own, hown⟩ : ∃ own, withinL l a n = own := ⟨_, rfl⟩
  have hmu2 : ∀ b j, mu (withinL l a n) b j ≤ 2 ^ j := fun b j => Nat.le_trans (mass_within_le l a n b (2 ^ j)) (hmu b j)
  rw [hown] at hw hsum hlen hval hmuO hmu2
  obtain ⟨S, hS⟩ : ∃ S, mu l a k = S := ⟨_, rfl⟩
  rw [hS] at hsum hm
  have HSUM := Lib.hid hsum
  have HS := Lib.hid hS
  have HVAL := Lib.hid hval
  have HMO := Lib.hid hmuO
  have HMU2 := Lib.hid hmu2
  have HB0 := Lib.hid hb0
  have HN := Lib.hid hn
  have HBX := Lib.hid (box_start w)
  clear hown hr hv hmu hb0 hsum hS hval hmuO hmu2 hn
  go_enter Tryz.func69, Tryz.ntmps69
  go_wp2_with fail
  refine hw.mono ?_
  rintro e w1 ⟨A1, c1, rfl, hg1, hb1⟩
  have hB1 : Below w.heap.size w w1 := HB0.out.trans (hb1.mono (by simp))
  have HROW := Lib.hid hg1.row
  have HBX1 := Lib.hid (HBX.out.below hb1 (by simp))
  have HB1 := Lib.hid hB1
  have hsz1 : w.heap.size + 1 ≤ w1.heap.size := by have := hb1.size; simpa using this
  have HSZ1 := Lib.hid hsz1
  clear hw hg1 hb1 hB1 hsz1
  go_wp2
  go_loopg [8, 9] own.length (fun q o i wr => ∃ (j s : Nat), j ≤ own.length ∧ q = own.length - j ∧ i = .int .i64 j ∧ o = .int .u64 (s : Int) ∧ Hid (s = ((own.take j).map fun r => r.2 - r.1).sum) ∧ Hid (Below w1.heap.size w1 wr))
  case atStart => exact ⟨0, 0, by omega, by omega, rfl, rfl, by show _ = _; simp, Below.refl _ _⟩
  case round =>
    obtain ⟨j, s, hj, hgk, rfl, rfl, hs, hB⟩ := hrel
    have HGK := Lib.hid hgk; clear hgk
    by_cases hlt : j < own.length
    · obtain ⟨b, off, rfl, hb, F1⟩ := HROW.out.at j hlt
      obtain ⟨hv1, hv2⟩ := HVAL.out _ (List.getElem_mem hlt)
      have hnext := sum_take own j hlt
      have hle := sum_take_le own (j + 1)
      rw [HSUM.out] at hle
      obtain ⟨f0, f1⟩ := F1.out wr hB.out
      obtain ⟨x, hx⟩ : ∃ x, (own[j]'hlt).1 = x := ⟨_, rfl⟩
      obtain ⟨y, hy⟩ : ∃ y, (own[j]'hlt).2 = y := ⟨_, rfl⟩
      simp only [hx, hy] at f0 f1 hv1 hv2 hnext
      have HNX : Hid (s + (y - x) = ((own.take (j + 1)).map fun r => r.2 - r.1).sum) := by show _ = _; rw [hnext, hs.out]
      have hbound : s ≤ 1000000000000 := by have := HNX.out; omega
      have hw1 : IntKind.u64.wrap ((s : Int) + (y : Int)) = (s : Int) + (y : Int) := by rw [IntKind.wrap_u64]; omega
      have hw2 : IntKind.u64.wrap ((s : Int) + (y : Int) - (x : Int)) = ((s + (y - x) : Nat) : Int) := by rw [IntKind.wrap_u64]; omega
      obtain ⟨s2, hs2⟩ : ∃ s2, s + (y - x) = s2 := ⟨_, rfl⟩
      rw [hs2] at hw2 HNX
      clear hnext hle hx hy F1 hs2
      go_wp2
      go_quiet (fail)
      have HB2 : Hid (Below w1.heap.size w1 (wr.drewN nq)) := below_drewN hB.out nq
      generalize wr.drewN nq = w2 at *
      go_wp2
      go_roundg (own.length - (j + 1))
      case measure => have := HGK.out; omega
      case rel => exact ⟨j + 1, s2, by omega, rfl, by go_num, rfl, HNX, HB2⟩
    · obtain rfl : j = own.length := by omega
      have hsS : s = S := by rw [hs.out, List.take_length]; exact HSUM.out
      subst hsS
      have HB2 : Hid (Below w.heap.size w wr) := HB1.out.trans (hB.out.mono HB1.out.size)
      have HBX2 := Lib.hid (HBX1.out.below hB.out (by have := HSZ1.out; omega))
      have hszr : w.heap.size < wr.heap.size := by have := HSZ1.out; have := hB.out.size; omega
      have hnp : 0 < n := by rw [HN.out]; exact Nat.two_pow_pos k
      by_cases h0 : s = 0
      · subst h0
        have HR := Lib.hid (build_zero HS.out)
        have hz : ((0 : Int) == (n : Int)) = false := beq_eq_false_iff_ne.2 (by omega)
        clear ih
        go_wp2_with fail
        refine (leaf_any _ _).mono ?_
        rintro e w3 ⟨rfl, hb3⟩
        have HBX3 := HBX2.out.below hb3 hszr
        obtain ⟨⟨c0, c1'⟩, f0, f1⟩ := HBX3.facts
        have HFIN : Hid (∀ u1 u2, InT ((w3.setCell ⟨w.heap.size, 0, none⟩ u1).setCell ⟨w.heap.size, 1, none⟩ u2) ((w3.setCell ⟨w.heap.size, 0, none⟩ u1).setCell ⟨w.heap.size, 1, none⟩ u2).heap.size (.leaf false) (tv false none 0 0) ∧ Below w.heap.size w ((w3.setCell ⟨w.heap.size, 0, none⟩ u1).setCell ⟨w.heap.size, 1, none⟩ u2)) := fun u1 u2 => store_in HBX3 ⟨none, 0, rfl⟩ (HB2.out.trans (hb3.mono HB2.out.size)) (Nat.le_refl _)
        clear hb3 HBX3
        unfold tv
        go_wp2
        refine bodyPost_ret (v := tv false none 0 0) (by simp [results, Tryz.f69, go_sem, tv, c0, c1']) rfl ?_
        refine ⟨_, rfl, ?_, (HFIN.out _ _).2⟩
        rw [HR.out]; exact (HFIN.out _ _).1
      · by_cases hf : s = n
        · subst hf
          have HR := Lib.hid (build_full (μ := mu l) (k := k) (a := a) (by rw [HS.out]; exact HN.out))
          have hz : ((s : Int) == 0) = false := beq_eq_false_iff_ne.2 (by omega)
          clear ih
          go_wp2_with fail
          refine (leaf_any _ _).mono ?_
          rintro e w3 ⟨rfl, hb3⟩
          have HBX3 := HBX2.out.below hb3 hszr
          obtain ⟨⟨c0, c1'⟩, f0, f1⟩ := HBX3.facts
          have HFIN : Hid (∀ u1 u2, InT ((w3.setCell ⟨w.heap.size, 0, none⟩ u1).setCell ⟨w.heap.size, 1, none⟩ u2) ((w3.setCell ⟨w.heap.size, 0, none⟩ u1).setCell ⟨w.heap.size, 1, none⟩ u2).heap.size (.leaf true) (tv true none 0 0) ∧ Below w.heap.size w ((w3.setCell ⟨w.heap.size, 0, none⟩ u1).setCell ⟨w.heap.size, 1, none⟩ u2)) := fun u1 u2 => store_in HBX3 ⟨none, 0, rfl⟩ (HB2.out.trans (hb3.mono HB2.out.size)) (Nat.le_refl _)
          clear hb3 HBX3
          unfold tv
          go_wp2
          refine bodyPost_ret (v := tv true none 0 0) (by simp [results, Tryz.f69, go_sem, tv, c0, c1']) rfl ?_
          refine ⟨_, rfl, ?_, (HFIN.out _ _).2⟩
          rw [HR.out]; exact (HFIN.out _ _).1
        · obtain ⟨k, rfl⟩ : ∃ k', k = k' + 1 := ⟨k - 1, by
            rcases Nat.eq_zero_or_pos k with h | h
            · subst h; have := HN.out; simp at this; omega
            · omega⟩
          have HR : Hid (Tr.build (mu l) (k + 1) a = (Tr.build (mu own) k a).mk2 (Tr.build (mu own) k (a + 2 ^ k))) := by
            show _ = _
            have hp := Nat.two_pow_pos k
            have e2 : n = 2 ^ k * 2 := by rw [HN.out, Nat.pow_succ]
            rw [build_mid (by rw [HS.out]; exact h0) (by rw [HS.out, ← HN.out]; exact hf)]
            rw [Tr.build_congr k a (fun j b h1 h2 => (HMO.out b j h1 (by omega)).symm), Tr.build_congr k (a + 2 ^ k) (fun j b h1 h2 => (HMO.out b j (by omega) (by omega)).symm)]
          obtain ⟨h, hh⟩ : ∃ h, 2 ^ k = h := ⟨_, rfl⟩
          have hn2 : n = h * 2 := by rw [HN.out, Nat.pow_succ, hh]
          rw [hh] at HR
          have hq : (n : Int).tdiv 2 = (h : Int) := by rw [Int.tdiv_eq_ediv_of_nonneg (by omega)]; omega
          have hwh : IntKind.u64.wrap (h : Int) = (h : Int) := by rw [IntKind.wrap_u64]; omega
          have hwa : IntKind.u64.wrap ((a : Int) + (h : Int)) = (a : Int) + (h : Int) := by rw [IntKind.wrap_u64]; omega
          have hz1 : ((s : Int) == 0) = false := beq_eq_false_iff_ne.2 (by omega)
          have hz2 : ((s : Int) == (n : Int)) = false := beq_eq_false_iff_ne.2 (by omega)
          have hov : ∀ r ∈ own, r.1 ≤ 1000000000000 ∧ r.2 ≤ 1000000000000 := fun r hr => by have := HVAL.out r hr; omega
          have hcall1 := ih k (by omega) A1 c1 own a h wr hh.symm (by omega) (HROW.out.up hB.out) (by omega) hov HMU2.out
          have H2 := Lib.hid hn2
          have HHH := Lib.hid hh
          have hcall2 := fun W hB' => ih k (by omega) A1 c1 own (a + h) h W hh.symm (by omega) hB' (by omega) hov HMU2.out
          simp only [show ((a + h : Nat) : Int) = (a : Int) + (h : Int) by omega] at hcall2
          obtain ⟨T1, hT1⟩ : ∃ T1, Tr.build (mu own) k a = T1 := ⟨_, rfl⟩
          obtain ⟨T2, hT2⟩ : ∃ T2, Tr.build (mu own) k (a + h) = T2 := ⟨_, rfl⟩
          simp only [hT1, hT2] at hcall1 hcall2 HR
          have HROWR := Lib.hid (HROW.out.up hB.out)
          have HS0 := Lib.hid h0
          have HSF := Lib.hid hf
          clear ih hn2 hh hov hT1 hT2 h0 hf
          go_wp2_with fail
          refine hcall1.mono ?_
          rintro e w3 ⟨v1, rfl, ht1, hb3⟩
          have hc2 := hcall2 w3 (HROWR.out.up hb3)
          have HBX3 := Lib.hid (HBX2.out.below hb3 hszr)
          have HB3 : Hid (Below w.heap.size w w3) := HB2.out.trans (hb3.mono HB2.out.size)
          have HT1 := Lib.hid ht1
          have hs3 : w.heap.size < w3.heap.size := by have := hb3.size; omega
          clear hb3 ht1 hcall1 hcall2
          go_wp2_with fail
          refine hc2.mono ?_
          rintro e w4 ⟨v2, rfl, ht2, hb4⟩
          have hc3 := node_any T1 T2 v1 v2 w4 (HT1.out.up hb4) ht2
          have HBX4 := Lib.hid (HBX3.out.below hb4 hs3)
          have HB4 : Hid (Below w.heap.size w w4) := HB3.out.trans (hb4.mono HB3.out.size)
          have hs4 : w.heap.size < w4.heap.size := by have := hb4.size; omega
          clear hb4 ht2 hc2
          go_wp2_with fail
          refine hc3.mono ?_
          rintro e w5 ⟨v3, rfl, ht3, hb5⟩
          obtain ⟨o5, A5, n5, c5, rfl⟩ := ht3.form
          have HBX5 := HBX4.out.below hb5 hs4
          obtain ⟨⟨c0, c1'⟩, f0, f1⟩ := HBX5.facts
          have HFIN : Hid (∀ u1 u2, InT ((w5.setCell ⟨w.heap.size, 0, none⟩ u1).setCell ⟨w.heap.size, 1, none⟩ u2) ((w5.setCell ⟨w.heap.size, 0, none⟩ u1).setCell ⟨w.heap.size, 1, none⟩ u2).heap.size (T1.mk2 T2) (tv o5 A5 n5 c5) ∧ Below w.heap.size w ((w5.setCell ⟨w.heap.size, 0, none⟩ u1).setCell ⟨w.heap.size, 1, none⟩ u2)) := fun u1 u2 => store_in HBX5 ht3 (HB4.out.trans (hb5.mono HB4.out.size)) (Nat.le_refl _)
          clear hb5 HBX5 ht3 hc3
          unfold tv
          go_wp2
          refine bodyPost_ret (v := tv o5 A5 n5 c5) (by simp [results, Tryz.f69, go_sem, tv, c0, c1']) rfl ?_
          refine ⟨_, rfl, ?_, (HFIN.out _ _).2⟩
          rw [HR.out]; exact (HFIN.out _ _).1
end Go.Proofs.YtoaglkjpjolacaaGreatDoor.I
namespace Go.Proofs.YtoaglkjpjolacaaGreatDoor.I
open Go.RowKit
theorem ranges_mass : ∀ (t : Tr) (k a b m : Nat), t.depth ≤ k → mass (ranges t a (2 ^ k)) b m ≤ min (a + 2 ^ k) (b + m) - max a b
  | .leaf o, k, a, b, m, _ => by
    cases o
    · simp [ranges, mass_nil]
    · simp only [ranges, if_true, mass_cons, mass_nil]; unfold clip; simp only; omega
  | .node _ _, 0, _, _, _, h => by simp [Tr.depth] at h
  | .node x y, k + 1, a, b, m, h => by
    simp only [Tr.depth] at h
    have e2 : 2 ^ (k + 1) / 2 = 2 ^ k := by rw [Nat.pow_succ]; omega
    have hp := Nat.two_pow_pos k
    have h1 := ranges_mass x k a b m (by omega)
    have h2 := ranges_mass y k (a + 2 ^ k) b m (by omega)
    simp only [ranges, e2, mass_append]
    rw [Nat.pow_succ]
    omega
theorem ranges_mu (t : Tr) (k a b j : Nat) (h : t.depth ≤ k) : mu (ranges t a (2 ^ k)) b j ≤ 2 ^ j := by
  have := ranges_mass t k a b (2 ^ j) h
  have := Nat.two_pow_pos j
  have := Nat.two_pow_pos k
  unfold mu
  omega
theorem ranges_up : ∀ (t : Tr) (n a : Nat), ∀ r ∈ ranges t a n, r.1 ≤ r.2
  | .leaf o, n, a, r, hr => by
    cases o
    · simp [ranges] at hr
    · simp [ranges] at hr; subst hr; simp
  | .node x y, n, a, r, hr => by
    simp only [ranges] at hr
    rcases List.mem_append.1 hr with h | h
    · exact ranges_up x _ _ r h
    · exact ranges_up y _ _ r h
/-- What Norm answers. -/
def NormR (o : Bool) (ks : Fo) (w : World) (e : Ending) (w' : World) : Prop :=
  ((∃ t v, treeOf o ks = some t ∧ e = .returned (.tuple #[v, .int .i64 0]) ∧ InT w' w'.heap.size t.norm v) ∨ (treeOf o ks = none ∧ e = .returned (.tuple #[tv false none 0 0, .int .i64 2]))) ∧ Below w.heap.size w w'
set_option maxRecDepth 100000 in
set_option maxHeartbeats 1600000 in
theorem rnorm_any (o : Bool) (ks : Fo) (A : Option Addr) (c : Nat) (w : World) (hk : Kd w w.heap.size ks A) : Calls Tryz.prog 87 #[tv o A ks.len c] w (NormR o ks w) := by
  have hb0 : Below w.heap.size w ((w.alloc (.cells #[.bool o, .slice A ks.len c] 24)).alloc (.cells #[.bool false, .slice none 0 0] 24)) := ((Below.refl _ w).alloc (Nat.le_refl _) _).alloc (by simp) _
  have hc1 := rRight_any o ks A c ((w.alloc (.cells #[.bool o, .slice A ks.len c] 24)).alloc (.cells #[.bool false, .slice none 0 0] 24)) (hk.up hb0)
  have hbx : Box0 ((w.alloc (.cells #[.bool o, .slice A ks.len c] 24)).alloc (.cells #[.bool false, .slice none 0 0] 24)) (w.heap.size + 1) := by have := heap_alloc_new (w.alloc (.cells #[.bool o, .slice A ks.len c] 24)) (.cells #[.bool false, .slice none 0 0] 24); rwa [World.size_alloc] at this
  have HB0 := Lib.hid hb0
  have HBX := Lib.hid hbx
  have HK := Lib.hid hk
  unfold tv at hc1 ⊢
  cases ht : treeOf o ks with
  | none =>
    rw [ht] at hc1
    have HT := Lib.hid ht
    clear hb0 hbx hk ht
    go_enter Tryz.func87, Tryz.ntmps87
    go_wp2_with fail
    refine hc1.mono ?_
    rintro e w1 ⟨rfl, hb1⟩
    have HB1 : Hid (Below w.heap.size w w1) := HB0.out.trans (hb1.mono HB0.out.size)
    have HBX1 := HBX.out.below hb1 (by simp)
    obtain ⟨⟨c0, c1'⟩, f0, f1⟩ := HBX1.facts
    have HFIN : Hid (∀ u1 u2, Below w.heap.size w ((w1.setCell ⟨w.heap.size + 1, 0, none⟩ u1).setCell ⟨w.heap.size + 1, 1, none⟩ u2)) := fun u1 u2 => (HB1.out.setCell (p := ⟨w.heap.size + 1, 0, none⟩) (by show _ ≤ w.heap.size + 1; omega) _).setCell (p := ⟨w.heap.size + 1, 1, none⟩) (by show _ ≤ w.heap.size + 1; omega) _
    clear hb1 HBX1 hc1
    go_wp2
    refine bodyPost_ret (v := .tuple #[tv false none 0 0, .int .i64 2]) (by simp [results, Tryz.f87, go_sem, tv, c0, c1']) rfl ?_
    exact ⟨.inr ⟨HT.out, rfl⟩, HFIN.out _ _⟩
  | some t =>
    rw [ht] at hc1
    obtain ⟨hin, hd, hn⟩ := in_treeOf (c := c) ht hk
    have HIN := Lib.hid hin
    have HT := Lib.hid ht
    have HD := Lib.hid hd
    clear hb0 hbx hk ht hin
    go_enter Tryz.func87, Tryz.ntmps87
    go_wp2_with fail
    refine hc1.mono ?_
    rintro e w1 ⟨rfl, hb1⟩
    have HB1 : Hid (Below w.heap.size w w1) := HB0.out.trans (hb1.mono HB0.out.size)
    have HBX1 := Lib.hid (HBX.out.below hb1 (by simp))
    have hcell : w1.cell? ⟨w.heap.size, 0, none⟩ = some (.bool o) ∧ w1.cell? ⟨w.heap.size, 1, none⟩ = some (.slice A ks.len c) := by
      rw [hb1.cell (p := ⟨w.heap.size, 0, none⟩) (by simp; omega), hb1.cell (p := ⟨w.heap.size, 1, none⟩) (by simp; omega)]
      simp [go_sem]
    obtain ⟨m0, m1⟩ := hcell
    have hsz1 : w.heap.size + 1 < w1.heap.size := by have := hb1.size; simp at this; omega
    have hc2 := means_any t (tv o A ks.len c) w1 hd hn (HIN.out.up HB1.out)
    unfold tv at hc2
    clear hb1 hc1
    go_wp2_with fail
    refine hc2.mono ?_
    rintro e w2 ⟨A2, c2, rfl, hg2, hb2, _⟩
    have hlen : (ranges t 0 4294967296).length ≤ 1000000 := Nat.le_trans (ranges_len t 32 0) (by omega)
    have hvals : ∀ r ∈ ranges t 0 4294967296, r.1 ≤ 1000000000000 ∧ r.2 ≤ 1000000000000 := fun r hr => by
      have h1 := ranges_in t 32 0 HD.out r hr
      have h2 := ranges_up t _ _ r hr
      have e3 : (2 : Nat) ^ 32 = 4294967296 := rfl
      omega
    have hc3 := tree_any 32 A2 c2 (ranges t 0 4294967296) 0 4294967296 w2 rfl (by omega) hg2.row hlen hvals (fun b j => ranges_mu t 32 0 b j HD.out)
    have hbr : Tr.build (mu (ranges t 0 4294967296)) 32 0 = t.norm := build_ranges t 32 0 HD.out
    rw [hbr] at hc3
    simp only [Int.natCast_zero] at hc3
    have HB2 : Hid (Below w.heap.size w w2) := HB1.out.trans (hb2.mono HB1.out.size)
    have HBX2 := Lib.hid (HBX1.out.below hb2 hsz1)
    have hsz2 : w.heap.size + 1 < w2.heap.size := by have := hb2.size; omega
    clear hb2 hc2 hg2 hlen hvals hbr
    obtain ⟨N2, hN2⟩ : ∃ N2, (ranges t 0 4294967296).length = N2 := ⟨_, rfl⟩
    rw [hN2] at hc3 ⊢
    clear hN2
    go_wp2_with fail
    refine hc3.mono ?_
    rintro e w3 ⟨v3, rfl, ht3, hb3⟩
    obtain ⟨o5, A5, n5, c5, rfl⟩ := ht3.form
    have HBX3 := HBX2.out.below hb3 hsz2
    obtain ⟨⟨c0, c1'⟩, f0, f1⟩ := HBX3.facts
    have HFIN : Hid (∀ u1 u2, InT ((w3.setCell ⟨w.heap.size + 1, 0, none⟩ u1).setCell ⟨w.heap.size + 1, 1, none⟩ u2) ((w3.setCell ⟨w.heap.size + 1, 0, none⟩ u1).setCell ⟨w.heap.size + 1, 1, none⟩ u2).heap.size t.norm (tv o5 A5 n5 c5) ∧ Below w.heap.size w ((w3.setCell ⟨w.heap.size + 1, 0, none⟩ u1).setCell ⟨w.heap.size + 1, 1, none⟩ u2)) := fun u1 u2 => store_in HBX3 ht3 (HB2.out.trans (hb3.mono HB2.out.size)) (by omega)
    clear hb3 HBX3 ht3 hc3
    unfold tv
    go_wp2
    refine bodyPost_ret (v := .tuple #[tv o5 A5 n5 c5, .int .i64 0]) (by simp [results, Tryz.f87, go_sem, tv, c0, c1']) rfl ?_
    exact ⟨.inl ⟨t, _, HT.out, rfl, (HFIN.out _ _).1⟩, (HFIN.out _ _).2⟩
end Go.Proofs.YtoaglkjpjolacaaGreatDoor.I
namespace Go.Proofs.YtoaglkjpjolacaaGreatDoor.I
open Go.RowKit
def eqT : Tr → Tr → Bool
  | .leaf o, .leaf p => o == p
  | .node a b, .node c d => eqT a c && eqT b d
  | _, _ => false
theorem eqT_iff : ∀ (x y : Tr), eqT x y = true ↔ x = y
  | .leaf o, .leaf p => by simp [eqT]
  | .node a b, .node c d => by simp [eqT, eqT_iff a c, eqT_iff b d]
  | .leaf _, .node _ _ => by simp [eqT]
  | .node _ _, .leaf _ => by simp [eqT]
theorem eqT_refl (x : Tr) : eqT x x = true := (eqT_iff x x).2 rfl

set_option maxRecDepth 100000 in
set_option maxHeartbeats 1600000 in
/-- Trees whose first look tells them apart, or leaves. -/
theorem equal_no (o1 o2 : Bool) (A1 A2 : Option Addr) (n1 n2 c1 c2 : Nat) (w : World) (h : o1 ≠ o2 ∨ n1 ≠ n2) : Calls Tryz.prog 28 #[tv o1 A1 n1 c1, tv o2 A2 n2 c2] w fun e w' => e = .returned (.bool false) ∧ Below w.heap.size w w' := by
  have HB : Hid (Below w.heap.size w ((w.alloc (.cells #[.bool o1, .slice A1 n1 c1] 24)).alloc (.cells #[.bool o2, .slice A2 n2 c2] 24))) := ((Below.refl _ w).alloc (Nat.le_refl _) _).alloc (by simp) _
  unfold tv
  by_cases ho : o1 = o2
  · have hn : ¬ n1 = n2 := by
      rcases h with h | h
      · exact absurd ho h
      · exact h
    subst ho
    clear h
    go_enter Tryz.func28, Tryz.ntmps28
    go_wp2
    go_ret
    exact ⟨rfl, HB.out⟩
  · have hob : (o1 == o2) = false := beq_eq_false_iff_ne.2 ho
    clear h
    go_enter Tryz.func28, Tryz.ntmps28
    go_wp2
    go_ret
    exact ⟨rfl, HB.out⟩
set_option maxRecDepth 100000 in
set_option maxHeartbeats 1600000 in
theorem equal_leaf (o : Bool) (A1 A2 : Option Addr) (c1 c2 : Nat) (w : World) : Calls Tryz.prog 28 #[tv o A1 0 c1, tv o A2 0 c2] w fun e w' => e = .returned (.bool true) ∧ Below w.heap.size w w' := by
  have HB : Hid (Below w.heap.size w ((w.alloc (.cells #[.bool o, .slice A1 0 c1] 24)).alloc (.cells #[.bool o, .slice A2 0 c2] 24))) := ((Below.refl _ w).alloc (Nat.le_refl _) _).alloc (by simp) _
  unfold tv
  go_enter Tryz.func28, Tryz.ntmps28
  go_wp2
  go_loopg [5] 0 (fun k i wr => k = 0 ∧ i = .int .i64 0 ∧ wr = (w.alloc (.cells #[.bool o, .slice A1 0 c1] 24)).alloc (.cells #[.bool o, .slice A2 0 c2] 24))
  case atStart => exact ⟨rfl, rfl, rfl⟩
  case round =>
    obtain ⟨_, rfl, rfl⟩ := hrel
    go_wp2
    go_ret
    exact ⟨rfl, HB.out⟩

set_option maxRecDepth 100000 in
set_option maxHeartbeats 3200000 in
theorem equal_any : ∀ (x y : Tr) (u v : Value) (w : World), InT w w.heap.size x u → InT w w.heap.size y v → Calls Tryz.prog 28 #[u, v] w fun e w' => e = .returned (.bool (eqT x y)) ∧ Below w.heap.size w w' := by
  intro x
  induction x with
  | leaf o =>
    rintro y u v w ⟨A1, c1, rfl⟩ hy
    cases y with
    | leaf p =>
      obtain ⟨A2, c2, rfl⟩ := hy
      by_cases h : o = p
      · subst h; rw [eqT_refl]; exact equal_leaf o A1 A2 c1 c2 w
      · rw [show eqT (.leaf o) (.leaf p) = false by simp [eqT, h]]; exact equal_no _ _ _ _ _ _ _ _ w (.inl h)
    | node a b =>
      obtain ⟨b', off, c, rfl, _⟩ := hy
      exact equal_no _ _ _ _ _ _ _ _ w (.inr (by decide))
  | node x1 x2 ih1 ih2 =>
    rintro y u v w hx hy
    cases y with
    | leaf p =>
      obtain ⟨b', off, c, rfl, _⟩ := hx
      obtain ⟨A2, c2, rfl⟩ := hy
      exact equal_no _ _ _ _ _ _ _ _ w (.inr (by decide))
    | node y1 y2 =>
      obtain ⟨b, off, c, rfl, hb, ⟨p1, A1, n1, c1, e1, e2, e3⟩, ⟨p2, A2, n2, c2, e4, e5, e6⟩⟩ := hx
      obtain ⟨b', off', c', rfl, hb', ⟨q1, B1, m1, d1, g1, g2, g3⟩, ⟨q2, B2, m2, d2, g4, g5, g6⟩⟩ := hy
      unfold tv
      obtain ⟨W0, hW0⟩ : ∃ W0, (w.alloc (.cells #[.bool false, .slice (some ⟨b, off, none⟩) 2 c] 24)).alloc (.cells #[.bool false, .slice (some ⟨b', off', none⟩) 2 c'] 24) = W0 := ⟨_, rfl⟩
      have hB0 : Below w.heap.size w W0 := by rw [← hW0]; exact ((Below.refl _ w).alloc (Nat.le_refl _) _).alloc (by simp) _
      have hs0 : W0.heap.size = w.heap.size + 2 := by rw [← hW0]; simp
      have k1 : W0.cell? ⟨w.heap.size, 1, none⟩ = some (.slice (some ⟨b, off, none⟩) 2 c) := by rw [← hW0]; simp [go_sem]
      have k2 : W0.cell? ⟨w.heap.size + 1, 1, none⟩ = some (.slice (some ⟨b', off', none⟩) 2 c') := by rw [← hW0]; simp [go_sem]
      have FX : ∀ j, j < 2 → ∃ p A n d z q B m d' z', ((j = 0 ∧ z = x1 ∧ z' = y1) ∨ (j = 1 ∧ z = x2 ∧ z' = y2)) ∧ InT w w.heap.size z (tv p A n d) ∧ InT w w.heap.size z' (tv q B m d') ∧
          Hid (∀ W, Below (w.heap.size + 2) W0 W → W.cell? ⟨w.heap.size, 1, none⟩ = some (.slice (some ⟨b, off, none⟩) 2 c) ∧ W.cell? ⟨b, off + j * 2, none⟩ = some (.bool p) ∧ W.cell? ⟨b, off + j * 2 + 1, none⟩ = some (.slice A n d)) ∧
          Hid (∀ W, Below (w.heap.size + 2) W0 W → W.cell? ⟨w.heap.size + 1, 1, none⟩ = some (.slice (some ⟨b', off', none⟩) 2 c') ∧ W.cell? ⟨b', off' + j * 2, none⟩ = some (.bool q) ∧ W.cell? ⟨b', off' + j * 2 + 1, none⟩ = some (.slice B m d')) := by
        intro j hj
        have low : ∀ W, Below (w.heap.size + 2) W0 W → ∀ p : Addr, p.block < w.heap.size → W.cell? p = w.cell? p := fun W hW p hp => (hW.cell (by omega)).trans (hB0.cell hp)
        match j, hj with
        | 0, _ => exact ⟨p1, A1, n1, c1, x1, q1, B1, m1, d1, y1, .inl ⟨rfl, rfl, rfl⟩, e3, g3, fun W hW => ⟨(hW.cell (by show w.heap.size < _; omega)).trans k1, (low W hW _ hb).trans (by simpa using e1), (low W hW _ hb).trans (by simpa using e2)⟩, fun W hW => ⟨(hW.cell (by show w.heap.size + 1 < _; omega)).trans k2, (low W hW _ hb').trans (by simpa using g1), (low W hW _ hb').trans (by simpa using g2)⟩⟩
        | 1, _ => exact ⟨p2, A2, n2, c2, x2, q2, B2, m2, d2, y2, .inr ⟨rfl, rfl, rfl⟩, e6, g6, fun W hW => ⟨(hW.cell (by show w.heap.size < _; omega)).trans k1, (low W hW _ hb).trans (by simpa using e4), (low W hW _ hb).trans (by simpa using e5)⟩, fun W hW => ⟨(hW.cell (by show w.heap.size + 1 < _; omega)).trans k2, (low W hW _ hb').trans (by simpa using g4), (low W hW _ hb').trans (by simpa using g5)⟩⟩
      have HFX := Lib.hid FX
      have HB0 := Lib.hid hB0
      have HS0 := Lib.hid hs0
      have HW0 := Lib.hid hW0
      clear FX hB0 hs0 e1 e2 e3 e4 e5 e6 g1 g2 g3 g4 g5 g6 hW0 k1 k2
      go_enter Tryz.func28, Tryz.ntmps28
      go_wp2
      rw [HW0.out]
      go_loopg [5] 2 (fun k i wr => ∃ (j : Nat), j ≤ 2 ∧ k = 2 - j ∧ i = .int .i64 j ∧ Hid ((0 < j → eqT x1 y1 = true) ∧ (1 < j → eqT x2 y2 = true)) ∧ Hid (Below (w.heap.size + 2) W0 wr))
      case atStart => exact ⟨0, by omega, rfl, rfl, ⟨by omega, by omega⟩, Below.refl _ _⟩
      case round =>
        obtain ⟨j, hj, hgk, rfl, hinv, hB⟩ := hrel
        have HGK := Lib.hid hgk; clear hgk
        by_cases hlt : j < 2
        · obtain ⟨p, A, n, d, z, q, B, m, d', z', hz, hi1, hi2, F1, F2⟩ := HFX.out j hlt
          have hcall : ∀ W, Below (w.heap.size + 2) W0 W → Calls Tryz.prog 28 #[.agg #[.bool p, .slice A n d], .agg #[.bool q, .slice B m d']] W fun e w' => e = .returned (.bool (eqT z z')) ∧ Below W.heap.size W w' := by
            intro W hW
            have hBW : Below w.heap.size w W := HB0.out.trans (hW.mono (by omega))
            rcases hz with ⟨_, hz1, hz2⟩ | ⟨_, hz1, hz2⟩
            · rw [hz1] at hi1
              rw [hz2] at hi2
              rw [hz1, hz2]
              exact ih1 _ _ _ W (hi1.up hBW) (hi2.up hBW)
            · rw [hz1] at hi1
              rw [hz2] at hi2
              rw [hz1, hz2]
              exact ih2 _ _ _ W (hi1.up hBW) (hi2.up hBW)
          obtain ⟨f0', f1', f2'⟩ := F1.out wr hB.out
          have HE : ∀ r, eqT z z' = r → Hid ((r = true → (0 < j + 1 → eqT x1 y1 = true) ∧ (1 < j + 1 → eqT x2 y2 = true)) ∧ (r = false → eqT (.node x1 x2) (.node y1 y2) = false)) := by
            intro r hr
            rcases hz with ⟨h0, hz1, hz2⟩ | ⟨h0, hz1, hz2⟩
            · rw [hz1, hz2] at hr
              exact ⟨fun h => ⟨fun _ => hr.trans h, by omega⟩, fun h => by simp only [eqT]; rw [hr.trans h]; rfl⟩
            · rw [hz1, hz2] at hr
              exact ⟨fun h => ⟨fun _ => hinv.out.1 (by omega), fun _ => hr.trans h⟩, fun h => by simp only [eqT]; rw [hr.trans h, Bool.and_false]⟩
          obtain ⟨r, hre⟩ : ∃ r, eqT z z' = r := ⟨_, rfl⟩
          simp only [hre] at hcall
          have HE2 := HE r hre
          clear hz hi1 hi2 hre HE
          go_wp2
          refine wp_region_held_drew (S := fun W => Below (w.heap.size + 2) W0 W) (by kernel_rfl) (hB.out.drew) (fun hS => ?_)
          refine wpAnyH_take (i := 0) (v := ?_) rfl (by kernel_rfl) (by kernel_rfl) (by kernel_rfl) (fun _ _ _ h => h) (Yields.yieldsIf (Or.inl ⟨by kernel_rfl, ?_⟩)) hS ?_
          rotate_left
          · first | (intro w; go_simp; done) | (intro w; go_simp; with_reducible rfl)
          refine wpAnyH_take (i := 1) (v := ?_) rfl (by kernel_rfl) (by kernel_rfl) (by kernel_rfl) (fun _ _ _ h => h) (Or.inl ⟨by kernel_rfl, fun W hW => ?_⟩) hS ?_
          rotate_left
          · obtain ⟨f0, f1, f2⟩ := F1.out W hW
            first | (go_simp; done) | (go_simp; with_reducible rfl)
          refine wpAnyH_take (i := 2) (v := ?_) rfl (by kernel_rfl) (by kernel_rfl) (by kernel_rfl) (fun _ _ _ h => h) (Yields.yieldsIf (Or.inl ⟨by kernel_rfl, ?_⟩)) hS ?_
          rotate_left
          · first | (intro w; go_simp; done) | (intro w; go_simp; with_reducible rfl)
          refine wpAnyH_take (i := 3) (v := ?_) rfl (by kernel_rfl) (by kernel_rfl) (by kernel_rfl) (fun _ _ _ h => h) (Yields.yieldsIf (Or.inl ⟨by kernel_rfl, ?_⟩)) hS ?_
          rotate_left
          · first | (intro w; go_simp; done) | (intro w; go_simp; with_reducible rfl)
          refine wpAnyH_take (i := 4) (v := ?_) rfl (by kernel_rfl) (by kernel_rfl) (by kernel_rfl) (fun _ _ _ h => h) (Or.inl ⟨by kernel_rfl, fun W hW => ?_⟩) hS ?_
          rotate_left
          · obtain ⟨f0, f1, f2⟩ := F1.out W hW
            first | (go_simp; done) | (go_simp; with_reducible rfl)
          refine wpAnyH_take (i := 5) (v := ?_) rfl (by kernel_rfl) (by kernel_rfl) (by kernel_rfl) (fun _ _ _ h => h) (Yields.yieldsIf (Or.inl ⟨by kernel_rfl, ?_⟩)) hS ?_
          rotate_left
          · first | (intro w; go_simp; done) | (intro w; go_simp; with_reducible rfl)
          refine wpAnyH_take (i := 6) (v := ?_) rfl (by kernel_rfl) (by kernel_rfl) (by kernel_rfl) (fun _ _ _ h => h) (Or.inl ⟨by kernel_rfl, fun W hW => ?_⟩) hS ?_
          rotate_left
          · obtain ⟨f0, f1, f2⟩ := F2.out W hW
            first | (go_simp; done) | (go_simp; with_reducible rfl)
          refine wpAnyH_take (i := 7) (v := ?_) rfl (by kernel_rfl) (by kernel_rfl) (by kernel_rfl) (fun _ _ _ h => h) (Yields.yieldsIf (Or.inl ⟨by kernel_rfl, ?_⟩)) hS ?_
          rotate_left
          · first | (intro w; go_simp; done) | (intro w; go_simp; with_reducible rfl)
          refine wpAnyH_take (i := 8) (v := ?_) rfl (by kernel_rfl) (by kernel_rfl) (by kernel_rfl) (fun _ _ _ h => h) (Yields.yieldsIf (Or.inl ⟨by kernel_rfl, ?_⟩)) hS ?_
          rotate_left
          · first | (intro w; go_simp; done) | (intro w; go_simp; with_reducible rfl)
          refine wpAnyH_take (i := 9) (v := ?_) rfl (by kernel_rfl) (by kernel_rfl) (by kernel_rfl) (fun _ _ _ h => h) (Or.inl ⟨by kernel_rfl, fun W hW => ?_⟩) hS ?_
          rotate_left
          · obtain ⟨f0, f1, f2⟩ := F2.out W hW
            first | (go_simp; done) | (go_simp; with_reducible rfl)
          refine wpAnyH_ready (rs := [10]) (by kernel_rfl) (by simp) ?_
          refine AllReadyH.cons rfl (fun K hK => ?_) AllReadyH.nil
          go_simp
          go_wp2_with (go_at_call 28; refine (hcall _ hS).mono ?_; rintro e w2 ⟨rfl, hbb⟩)
          have hS3 : Below (w.heap.size + 2) W0 w2 := hS.trans (hbb.mono (by have := hS.size; have := HS0.out; omega))
          clear hbb
          refine hK.out _ _ hS3 (fun hS => ?_)
          clear hK K hS3
          refine wpAnyH_take (i := 11) (v := ?_) rfl (by kernel_rfl) (by kernel_rfl) (by kernel_rfl) (fun _ _ _ h => h) (Yields.yieldsIf (Or.inl ⟨by kernel_rfl, ?_⟩)) hS ?_
          rotate_left
          · first | (intro w; go_simp; done) | (intro w; go_simp; with_reducible rfl)
          refine wpAnyH_done (by kernel_rfl) ?_ _
          have HB2 : Hid (Below (w.heap.size + 2) W0 w2) := hS
          clear hS hcall f0' f1' f2'
          cases r with
          | true =>
            go_wp2
            go_roundg (2 - (j + 1))
            case measure => have := HGK.out; omega
            case rel => exact ⟨j + 1, by omega, rfl, by go_num, HE2.out.1 (by first | rfl | trivial), HB2⟩
          | false =>
            go_wp2
            go_ret
            exact ⟨ret_bool (HE2.out.2 (by first | rfl | trivial)).symm, HB0.out.trans (HB2.out.mono (by omega))⟩
        · obtain rfl : j = 2 := by omega
          obtain ⟨f0', _, _⟩ := (HFX.out 0 (by omega)).choose_spec.choose_spec.choose_spec.choose_spec.choose_spec.choose_spec.choose_spec.choose_spec.choose_spec.choose_spec.2.2.2.1.out wr hB.out
          go_wp2
          go_ret
          refine ⟨ret_bool ?_, HB0.out.trans (hB.out.mono (by omega))⟩
          simp only [eqT]
          rw [hinv.out.1 (by omega), hinv.out.2 (by omega)]; rfl
end Go.Proofs.YtoaglkjpjolacaaGreatDoor.I
namespace Go.Proofs.YtoaglkjpjolacaaGreatDoor.I
open Go.RowKit
/-- What Norm answers, in one form. -/
theorem NormR.form {o : Bool} {ks : Fo} {w w' : World} {e : Ending} (h : NormR o ks w e w') : ∃ o5 A5 n5 c5 z, e = .returned (.tuple #[tv o5 A5 n5 c5, .int .i64 z]) ∧ ((z = 0 ∧ ∃ t, treeOf o ks = some t ∧ InT w' w'.heap.size t.norm (tv o5 A5 n5 c5)) ∨ (z = 2 ∧ treeOf o ks = none)) := by
  rcases h.1 with ⟨t, v, ht, rfl, hin⟩ | ⟨ht, rfl⟩
  · obtain ⟨o5, A5, n5, c5, rfl⟩ := hin.form
    exact ⟨o5, A5, n5, c5, 0, rfl, .inl ⟨rfl, t, ht, hin⟩⟩
  · exact ⟨false, none, 0, 0, 2, rfl, .inr ⟨rfl, ht⟩⟩
end Go.Proofs.YtoaglkjpjolacaaGreatDoor.I
