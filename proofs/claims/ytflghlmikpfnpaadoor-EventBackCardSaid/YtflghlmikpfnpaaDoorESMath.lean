/-
  Plain facts on steps: what a tree means, cut to a range; two meanings together. No program here.
-/
import Derived.Test.YtflghlmikpfnpaaDoorEMath
namespace Go.Proofs.YtflghlmikpfnpaaDoor.E

/-- A count, up to a piece. -/
abbrev St := Nat × Int
def stepsT : Tr → Nat → Nat → Int → List St
  | .leaf n, a, z, s => [(a + z, s + n)]
  | .node n l r, a, z, s => stepsT l a (z / 2) (s + n) ++ stepsT r (a + z / 2) (z / 2) (s + n)
theorem steps_len : ∀ (t : Tr) (a z : Nat) (s : Int), (stepsT t a z s).length ≤ t.nodes
  | .leaf n, a, z, s => by simp [stepsT, Tr.nodes]
  | .node n l r, a, z, s => by
    have := steps_len l a (z / 2) (s + n)
    have := steps_len r (a + z / 2) (z / 2) (s + n)
    simp only [stepsT, List.length_append, Tr.nodes]; omega
/-- Steps that go on from a piece to a piece, each of some width. -/
def Seg : Nat → List St → Nat → Prop
  | a, [], e => a = e
  | a, (t, _) :: r, e => a < t ∧ Seg t r e
theorem Seg.le : ∀ {a e : Nat} {l : List St}, Seg a l e → a ≤ e
  | _, _, [], h => Nat.le_of_eq h
  | _, _, _ :: _, h => Nat.le_trans (Nat.le_of_lt h.1) h.2.le
theorem Seg.append : ∀ {a b c : Nat} {l m : List St}, Seg a l b → Seg b m c → Seg a (l ++ m) c
  | _, _, _, [], _, h, g => by cases h; exact g
  | _, _, _, _ :: _, _, h, g => ⟨h.1, h.2.append g⟩
theorem steps_seg : ∀ (t : Tr) (k a : Nat) (s : Int), t.depth ≤ k → Seg a (stepsT t a (2 ^ k) s) (a + 2 ^ k)
  | .leaf n, k, a, s, _ => ⟨by have := Nat.two_pow_pos k; omega, rfl⟩
  | .node n l r, 0, a, s, h => by simp [Tr.depth] at h
  | .node n l r, k + 1, a, s, h => by
    simp only [Tr.depth] at h
    have e2 : 2 ^ (k + 1) / 2 = 2 ^ k := by rw [Nat.pow_succ]; omega
    have := steps_seg l k a (s + n) (by omega)
    have h2 := steps_seg r k (a + 2 ^ k) (s + n) (by omega)
    rw [show a + 2 ^ k + 2 ^ k = a + 2 ^ (k + 1) by rw [Nat.pow_succ]; omega] at h2
    simp only [stepsT, e2]
    exact this.append h2
/-- The count at a piece. -/
def cnt : List St → Nat → Int
  | [], _ => 0
  | (t, c) :: r, p => if p < t then c else cnt r p
theorem cnt_left : ∀ {a b : Nat} {l : List St} (m : List St) {p : Nat}, Seg a l b → p < b → a ≤ p → cnt (l ++ m) p = cnt l p
  | _, _, [], _, _, h, h1, h2 => by cases h; omega
  | _, _, (t, c) :: r, m, p, h, h1, h2 => by
    simp only [List.cons_append, cnt]
    split
    · rfl
    · exact cnt_left m h.2 h1 (by omega)
theorem cnt_right : ∀ {a b : Nat} {l : List St} (m : List St) {p : Nat}, Seg a l b → b ≤ p → cnt (l ++ m) p = cnt m p
  | _, _, [], _, _, _, _ => rfl
  | _, _, (t, c) :: r, m, p, h, h1 => by
    have := h.2.le
    simp only [List.cons_append, cnt]
    rw [if_neg (by omega)]
    exact cnt_right m h.2 h1
theorem Tr.Cov.congr {f g : Nat → Int} : ∀ {t : Tr} {k a : Nat} {s : Int}, Tr.Cov f t k a s → (∀ p, a ≤ p → p < a + 2 ^ k → g p = f p) → Tr.Cov g t k a s
  | .leaf n, k, a, s, h, e => fun p h1 h2 => (e p h1 h2).trans (h p h1 h2)
  | .node _ _ _, 0, _, _, h, _ => h.elim
  | .node n l r, k + 1, a, s, ⟨h1, h2⟩, e => by
    have hp := Nat.two_pow_pos k
    rw [Nat.pow_succ] at e
    exact ⟨h1.congr fun p a b => e p a (by omega), h2.congr fun p a b => e p (by omega) (by omega)⟩
theorem steps_cov : ∀ (t : Tr) (k a : Nat) (s : Int), t.depth ≤ k → Tr.Cov (cnt (stepsT t a (2 ^ k) s)) t k a s
  | .leaf n, k, a, s, _ => fun p h1 h2 => by simp only [stepsT, cnt]; rw [if_pos h2]
  | .node n l r, 0, a, s, h => by simp [Tr.depth] at h
  | .node n l r, k + 1, a, s, h => by
    simp only [Tr.depth] at h
    have e2 : 2 ^ (k + 1) / 2 = 2 ^ k := by rw [Nat.pow_succ]; omega
    have g1 := steps_seg l k a (s + n) (by omega)
    simp only [stepsT, e2]
    refine ⟨(steps_cov l k a (s + n) (by omega)).congr fun p h1 h2 => cnt_left _ g1 h2 h1, (steps_cov r k (a + 2 ^ k) (s + n) (by omega)).congr fun p h1 h2 => cnt_right _ g1 h1⟩
/-- Values within bounds. -/
def InB (l : List St) : Prop := ∀ r ∈ l, 0 ≤ r.2 ∧ r.2 ≤ 4611686018427387904
theorem steps_in : ∀ (t : Tr) (a z : Nat) (s : Int), 0 ≤ s → t.okc (4611686018427387904 - s) = true → InB (stepsT t a z s)
  | .leaf n, a, z, s, h0, h => by
    have := okc_N _ _ h
    simp only [Tr.N] at this
    intro r hr
    simp only [stepsT, List.mem_singleton] at hr
    subst hr
    simp only; omega
  | .node n l r, a, z, s, h0, h => by
    simp only [Tr.okc, Bool.and_eq_true_iff, decide_eq_true_eq] at h
    have e : (4611686018427387904 : Int) - (s + n) = 4611686018427387904 - s - n := by omega
    intro x hx
    simp only [stepsT] at hx
    rcases List.mem_append.1 hx with hx | hx
    · exact steps_in l a (z / 2) (s + n) (by omega) (by rw [e]; exact h.2.1) x hx
    · exact steps_in r (a + z / 2) (z / 2) (s + n) (by omega) (by rw [e]; exact h.2.2) x hx
/-- Steps, of a range alone. -/
def withW (was : Nat) : List St → Nat → Nat → List St
  | [], _, _ => []
  | (t, c) :: r, a, n => (if max was a < min t (a + n) then [(min t (a + n), c)] else []) ++ withW t r a n
theorem withW_len : ∀ (l : List St) (was a n : Nat), (withW was l a n).length ≤ l.length
  | [], _, _, _ => Nat.le_refl _
  | (t, c) :: r, was, a, n => by
    have := withW_len r t a n
    simp only [withW, List.length_append, List.length_cons]
    split <;> simp <;> omega
theorem withW_mem : ∀ (l : List St) (was a n : Nat), ∀ r ∈ withW was l a n, r.1 ≤ a + n ∧ ∃ x ∈ l, x.2 = r.2
  | [], _, _, _, r, h => by simp [withW] at h
  | (t, c) :: l, was, a, n, r, h => by
    simp only [withW] at h
    rcases List.mem_append.1 h with h | h
    · split at h
      · simp only [List.mem_singleton] at h
        subst h
        exact ⟨by simp only; omega, (t, c), List.mem_cons_self, rfl⟩
      · cases h
    · obtain ⟨h1, x, hx, e⟩ := withW_mem l t a n r h
      exact ⟨h1, x, List.mem_cons_of_mem _ hx, e⟩
theorem withW_in {l : List St} (h : InB l) (was a n : Nat) : InB (withW was l a n) := fun r hr => by
  obtain ⟨_, x, hx, e⟩ := withW_mem l was a n r hr
  rw [← e]; exact h x hx
/-- Steps that go on, some of them maybe of no width. -/
def Sea : Nat → List St → Nat → Prop
  | a, [], e => a = e
  | a, (t, _) :: r, e => a ≤ t ∧ Sea t r e
theorem Seg.sea : ∀ {a e : Nat} {l : List St}, Seg a l e → Sea a l e
  | _, _, [], h => h
  | _, _, _ :: _, h => ⟨Nat.le_of_lt h.1, h.2.sea⟩
theorem Sea.le : ∀ {a e : Nat} {l : List St}, Sea a l e → a ≤ e
  | _, _, [], h => Nat.le_of_eq h
  | _, _, _ :: _, h => Nat.le_trans h.1 h.2.le
theorem withW_out : ∀ (l : List St) (was a n : Nat) (e : Nat), Sea was l e → a + n ≤ was → withW was l a n = []
  | [], _, _, _, _, _, _ => rfl
  | (t, c) :: l, was, a, n, e, h, hw => by
    simp only [withW]
    rw [if_neg (by omega), withW_out l t a n e h.2 (by have := h.1; omega)]; rfl
theorem withW_seg : ∀ (l : List St) (was a n e : Nat), Sea was l e → a + n ≤ e → was ≤ a + n → Seg (max was a) (withW was l a n) (a + n) ∧ ∀ p, max was a ≤ p → p < a + n → cnt (withW was l a n) p = cnt l p
  | [], was, a, n, e, h, he, hw => by
    have : was = e := h
    exact ⟨by show max was a = a + n; omega, fun p h1 h2 => by omega⟩
  | (t, c) :: l, was, a, n, e, h, he, hw => by
    obtain ⟨h1, h2⟩ := h
    by_cases ht : a + n ≤ t
    · have eo := withW_out l t a n e h2 ht
      simp only [withW, eo, List.append_nil]
      by_cases hc : max was a < min t (a + n)
      · rw [if_pos hc]
        refine ⟨⟨hc, by show min t (a + n) = a + n; omega⟩, fun p p1 p2 => ?_⟩
        simp only [cnt]
        rw [if_pos (by omega), if_pos (by omega)]
      · rw [if_neg hc]
        exact ⟨by show max was a = a + n; omega, fun p p1 p2 => by omega⟩
    · obtain ⟨g1, g2⟩ := withW_seg l t a n e h2 he (by omega)
      simp only [withW]
      by_cases hc : max was a < min t (a + n)
      · rw [if_pos hc]
        have em : min t (a + n) = t := by omega
        have ex : max t a = t := by omega
        rw [ex] at g1 g2
        rw [em]
        refine ⟨⟨by omega, g1⟩, fun p p1 p2 => ?_⟩
        simp only [List.cons_append, List.nil_append, cnt]
        by_cases hp : p < t
        · rw [if_pos hp, if_pos hp]
        · rw [if_neg hp, if_neg hp]; exact g2 p (by omega) p2
      · rw [if_neg hc, List.nil_append]
        have ex : max t a = max was a := by omega
        rw [ex] at g1 g2
        refine ⟨g1, fun p p1 p2 => ?_⟩
        rw [g2 p p1 p2]
        simp only [cnt]
        rw [if_neg (by omega)]
/-- The least and the greatest of steps. -/
def minL : List St → Int → Int
  | [], m => m
  | (_, c) :: r, m => minL r (min m c)
def maxL : List St → Int → Int
  | [], m => m
  | (_, c) :: r, m => maxL r (max m c)
theorem minL_le : ∀ (l : List St) (m : Int), minL l m ≤ m ∧ ∀ x ∈ l, minL l m ≤ x.2
  | [], m => ⟨Int.le_refl _, by simp⟩
  | (t, c) :: r, m => by
    have h := minL_le r (min m c)
    refine ⟨by simp only [minL]; omega, fun x hx => ?_⟩
    rcases List.mem_cons.1 hx with rfl | hx
    · simp only [minL]; omega
    · exact h.2 x hx
theorem minL_at : ∀ (l : List St) (m : Int), minL l m = m ∨ ∃ x ∈ l, minL l m = x.2
  | [], m => .inl rfl
  | (t, c) :: r, m => by
    rcases minL_at r (min m c) with h | ⟨x, hx, h⟩
    · simp only [minL]
      by_cases hc : m ≤ c
      · left; omega
      · right; exact ⟨(t, c), List.mem_cons_self, by simp only; omega⟩
    · right; exact ⟨x, List.mem_cons_of_mem _ hx, h⟩
theorem le_maxL : ∀ (l : List St) (m : Int), m ≤ maxL l m ∧ ∀ x ∈ l, x.2 ≤ maxL l m
  | [], m => ⟨Int.le_refl _, by simp⟩
  | (t, c) :: r, m => by
    have h := le_maxL r (max m c)
    refine ⟨by simp only [maxL]; omega, fun x hx => ?_⟩
    rcases List.mem_cons.1 hx with rfl | hx
    · simp only [maxL]; omega
    · exact h.2 x hx
theorem maxL_at : ∀ (l : List St) (m : Int), maxL l m = m ∨ ∃ x ∈ l, maxL l m = x.2
  | [], m => .inl rfl
  | (t, c) :: r, m => by
    rcases maxL_at r (max m c) with h | ⟨x, hx, h⟩
    · simp only [maxL]
      by_cases hc : c ≤ m
      · left; omega
      · right; exact ⟨(t, c), List.mem_cons_self, by simp only; omega⟩
    · right; exact ⟨x, List.mem_cons_of_mem _ hx, h⟩
theorem seg_at : ∀ {a e : Nat} {l : List St}, Seg a l e → ∀ x ∈ l, ∃ p, a ≤ p ∧ p < e ∧ cnt l p = x.2
  | _, _, [], _, x, hx => by cases hx
  | a, e, (t, c) :: r, h, x, hx => by
    have hle := h.2.le
    rcases List.mem_cons.1 hx with rfl | hx
    · exact ⟨a, Nat.le_refl _, by have := h.1; omega, by simp only [cnt]; rw [if_pos h.1]⟩
    · obtain ⟨p, h1, h2, h3⟩ := seg_at h.2 x hx
      exact ⟨p, by have := h.1; omega, h2, by simp only [cnt]; rw [if_neg (by omega)]; exact h3⟩
theorem cnt_mem : ∀ {a e : Nat} {l : List St} {p : Nat}, Sea a l e → p < e → a ≤ p → ∃ x ∈ l, cnt l p = x.2
  | _, _, [], _, h, h1, h2 => by cases h; omega
  | a, e, (t, c) :: r, p, h, h1, h2 => by
    by_cases hp : p < t
    · exact ⟨(t, c), List.mem_cons_self, by simp only [cnt]; rw [if_pos hp]⟩
    · obtain ⟨x, hx, e⟩ := cnt_mem h.2 h1 (by omega)
      exact ⟨x, List.mem_cons_of_mem _ hx, by simp only [cnt]; rw [if_neg hp]; exact e⟩
/-- Of steps that go through a range, the least and the greatest are those of the counts. -/
theorem seg_ends {l : List St} {k a : Nat} {c0 : St} (h : Seg a l (a + 2 ^ k)) (h0 : l[0]? = some c0) : minL l c0.2 = Tr.lo (cnt l) k a ∧ maxL l c0.2 = Tr.hi (cnt l) k a := by
  have hm : c0 ∈ l := List.mem_of_getElem? h0
  constructor
  · obtain ⟨p, p1, p2, p3⟩ := Tr.lo_at (cnt l) k a
    obtain ⟨x, hx, e⟩ := cnt_mem h.sea p2 p1
    have h1 := (minL_le l c0.2).2 x hx
    have h2 : ∃ y ∈ l, minL l c0.2 = y.2 := by
      rcases minL_at l c0.2 with h | h
      · exact ⟨c0, hm, h⟩
      · exact h
    obtain ⟨y, hy, ey⟩ := h2
    obtain ⟨q, q1, q2, q3⟩ := seg_at h y hy
    have := Tr.lo_le (cnt l) k a q q1 q2
    omega
  · obtain ⟨p, p1, p2, p3⟩ := Tr.hi_at (cnt l) k a
    obtain ⟨x, hx, e⟩ := cnt_mem h.sea p2 p1
    have h1 := (le_maxL l c0.2).2 x hx
    have h2 : ∃ y ∈ l, maxL l c0.2 = y.2 := by
      rcases maxL_at l c0.2 with h | h
      · exact ⟨c0, hm, h⟩
      · exact h
    obtain ⟨y, hy, ey⟩ := h2
    obtain ⟨q, q1, q2, q3⟩ := seg_at h y hy
    have := Tr.le_hi (cnt l) k a q q1 q2
    omega
theorem lo_congr {h g : Nat → Int} : ∀ (k a : Nat), (∀ p, a ≤ p → p < a + 2 ^ k → h p = g p) → Tr.lo h k a = Tr.lo g k a ∧ Tr.hi h k a = Tr.hi g k a
  | 0, a, e => by simp only [Tr.lo, Tr.hi]; rw [e a (Nat.le_refl _) (by simp)]; exact ⟨rfl, rfl⟩
  | k + 1, a, e => by
    rw [Nat.pow_succ] at e
    have hp := Nat.two_pow_pos k
    have h1 := lo_congr k a fun p h1 h2 => e p h1 (by omega)
    have h2 := lo_congr k (a + 2 ^ k) fun p h1 h2 => e p (by omega) (by omega)
    simp only [Tr.lo, Tr.hi]
    rw [h1.1, h1.2, h2.1, h2.2]; exact ⟨rfl, rfl⟩
theorem lo_in {h : Nat → Int} (k a : Nat) {m M : Int} (e : ∀ p, a ≤ p → p < a + 2 ^ k → m ≤ h p ∧ h p ≤ M) : m ≤ Tr.lo h k a ∧ Tr.hi h k a ≤ M := by
  obtain ⟨p, h1, h2, h3⟩ := Tr.lo_at h k a
  obtain ⟨q, g1, g2, g3⟩ := Tr.hi_at h k a
  have := e p h1 h2
  have := e q g1 g2
  omega
/-- Two meanings' steps together. -/
def bothS : List St → List St → List St
  | (t, c) :: r, (u, d) :: s => (min t u, max c d) :: (if t = min t u then (if u = min t u then bothS r s else bothS r ((u, d) :: s)) else (if u = min t u then bothS ((t, c) :: r) s else []))
  | _, _ => []
termination_by a b => a.length + b.length
decreasing_by all_goals (simp only [List.length_cons]; omega)
def bothL : List St → List St → Bool → Bool
  | (t, c) :: r, (u, d) :: s, q => if t = min t u then (if u = min t u then bothL r s (q && decide (c ≤ d)) else bothL r ((u, d) :: s) (q && decide (c ≤ d))) else (if u = min t u then bothL ((t, c) :: r) s (q && decide (c ≤ d)) else q)
  | _, _, q => q
termination_by a b => a.length + b.length
decreasing_by all_goals (simp only [List.length_cons]; omega)
theorem both_seg (N : Nat) : ∀ (a b : List St) (x e : Nat), a.length + b.length < N → Seg x a e → Seg x b e → Seg x (bothS a b) e ∧ (∀ p, x ≤ p → p < e → cnt (bothS a b) p = max (cnt a p) (cnt b p)) ∧ (∀ q, bothL a b q = true ↔ (q = true ∧ ∀ p, x ≤ p → p < e → cnt a p ≤ cnt b p)) := by
  induction N with
  | zero => intro a b x e h; omega
  | succ N ih =>
  intro a b x e hN ha hb
  match a, b with
  | [], b =>
    cases ha
    match b with
    | [] => exact ⟨by rw [bothS]; rfl; simp, fun p h1 h2 => by omega, fun q => by rw [bothL]; exact ⟨fun h => ⟨h, fun p h1 h2 => by omega⟩, fun h => h.1⟩; simp⟩
    | (u, d) :: s => have := hb.1; have := hb.2.le; omega
  | (t, c) :: r, [] => cases hb; have := ha.1; have := ha.2.le; omega
  | (t, c) :: r, (u, d) :: s =>
    obtain ⟨a1, a2⟩ := ha
    obtain ⟨b1, b2⟩ := hb
    simp only [List.length_cons] at hN
    rw [bothS]
    have hL : ∀ q, bothL ((t, c) :: r) ((u, d) :: s) q = if t = min t u then (if u = min t u then bothL r s (q && decide (c ≤ d)) else bothL r ((u, d) :: s) (q && decide (c ≤ d))) else (if u = min t u then bothL ((t, c) :: r) s (q && decide (c ≤ d)) else q) := fun q => by rw [bothL]
    have fin : ∀ (A B : List St) (m : Nat), x < m → m ≤ t → m ≤ u → (∀ p, m ≤ p → cnt ((t, c) :: r) p = cnt A p) → (∀ p, m ≤ p → cnt ((u, d) :: s) p = cnt B p) → Seg m (bothS A B) e → (∀ p, m ≤ p → p < e → cnt (bothS A B) p = max (cnt A p) (cnt B p)) → (∀ q, bothL A B q = true ↔ (q = true ∧ ∀ p, m ≤ p → p < e → cnt A p ≤ cnt B p)) →
        Seg x ((m, max c d) :: bothS A B) e ∧ (∀ p, x ≤ p → p < e → cnt ((m, max c d) :: bothS A B) p = max (cnt ((t, c) :: r) p) (cnt ((u, d) :: s) p)) ∧ (∀ q, bothL A B (q && decide (c ≤ d)) = true ↔ (q = true ∧ ∀ p, x ≤ p → p < e → cnt ((t, c) :: r) p ≤ cnt ((u, d) :: s) p)) := by
      intro A B m m1 m2 m3 eA eB s1 s2 s3
      have hme := s1.le
      refine ⟨⟨m1, s1⟩, fun p p1 p2 => ?_, fun q => ?_⟩
      · by_cases hp : p < m
        · have h1 : cnt ((t, c) :: r) p = c := by simp only [cnt]; rw [if_pos (by omega)]
          have h2 : cnt ((u, d) :: s) p = d := by simp only [cnt]; rw [if_pos (by omega)]
          rw [h1, h2]
          simp only [cnt]; rw [if_pos hp]
        · rw [eA p (by omega), eB p (by omega), ← s2 p (by omega) p2]
          have : cnt ((m, max c d) :: bothS A B) p = cnt (bothS A B) p := by simp only [cnt]; rw [if_neg hp]
          exact this
      · rw [s3]
        simp only [Bool.and_eq_true, decide_eq_true_eq]
        constructor
        · rintro ⟨⟨h1, h2⟩, h3⟩
          refine ⟨h1, fun p p1 p2 => ?_⟩
          by_cases hp : p < m
          · have h1 : cnt ((t, c) :: r) p = c := by simp only [cnt]; rw [if_pos (by omega)]
            have h2 : cnt ((u, d) :: s) p = d := by simp only [cnt]; rw [if_pos (by omega)]
            omega
          · rw [eA p (by omega), eB p (by omega)]; exact h3 p (by omega) p2
        · rintro ⟨h1, h2⟩
          refine ⟨⟨h1, ?_⟩, fun p p1 p2 => ?_⟩
          · have h3 := h2 x (Nat.le_refl _) (by omega)
            have h4 : cnt ((t, c) :: r) x = c := by simp only [cnt]; rw [if_pos (by omega)]
            have h5 : cnt ((u, d) :: s) x = d := by simp only [cnt]; rw [if_pos (by omega)]
            omega
          · rw [← eA p p1, ← eB p p1]; exact h2 p (by omega) p2
    have skip : ∀ (t : Nat) (c : Int) (r : List St) (p : Nat), t ≤ p → cnt ((t, c) :: r) p = cnt r p := fun t c r p h => by simp only [cnt]; rw [if_neg (by omega)]
    simp only [hL]
    by_cases h1 : t = min t u
    · by_cases h2 : u = min t u
      · rw [if_pos h1, if_pos h2]
        simp only [if_pos h1, if_pos h2]
        have e1 : t = u := by omega
        subst e1
        obtain ⟨i1, i2, i3⟩ := ih r s t e (by omega) a2 b2
        rw [show min t t = t by omega]
        exact fin r s t a1 (Nat.le_refl _) (Nat.le_refl _) (fun p hp => skip t c r p hp) (fun p hp => skip t d s p hp) i1 i2 i3
      · rw [if_pos h1, if_neg h2]
        simp only [if_pos h1, if_neg h2]
        have b2' : Seg t ((u, d) :: s) e := ⟨by omega, b2⟩
        obtain ⟨i1, i2, i3⟩ := ih r ((u, d) :: s) t e (by simp only [List.length_cons]; omega) a2 b2'
        rw [show min t u = t by omega]
        exact fin r ((u, d) :: s) t a1 (Nat.le_refl _) (by omega) (fun p hp => skip t c r p hp) (fun p hp => rfl) i1 i2 i3
    · have h2 : u = min t u := by omega
      rw [if_neg h1, if_pos h2]
      simp only [if_neg h1, if_pos h2]
      have a2' : Seg u ((t, c) :: r) e := ⟨by omega, a2⟩
      obtain ⟨i1, i2, i3⟩ := ih ((t, c) :: r) s u e (by simp only [List.length_cons]; omega) a2' b2
      rw [show min t u = u by omega]
      exact fin ((t, c) :: r) s u b1 (by omega) (Nat.le_refl _) (fun p hp => rfl) (fun p hp => skip u d s p hp) i1 i2 i3
theorem both_mem (N : Nat) : ∀ (a b : List St), a.length + b.length < N → InB a → InB b → InB (bothS a b) ∧ (bothS a b).length ≤ a.length + b.length := by
  induction N with
  | zero => intro a b h; omega
  | succ N ih =>
  intro a b hN ha hb
  match a, b with
  | [], b => rw [bothS]; exact ⟨fun r hr => by simp at hr, by simp⟩; simp
  | (t, c) :: r, [] => rw [bothS]; exact ⟨fun r hr => by simp at hr, by simp⟩; simp
  | (t, c) :: r, (u, d) :: s =>
    simp only [List.length_cons] at hN
    have hc := ha _ List.mem_cons_self
    have hd := hb _ List.mem_cons_self
    simp only at hc hd
    have ha' : InB r := fun x hx => ha x (List.mem_cons_of_mem _ hx)
    have hb' : InB s := fun x hx => hb x (List.mem_cons_of_mem _ hx)
    have fin : ∀ (A : List St) (m : Nat), (InB A ∧ A.length ≤ r.length + s.length + 1) → InB ((m, max c d) :: A) ∧ ((m, max c d) :: A).length ≤ ((t, c) :: r).length + ((u, d) :: s).length := fun A m h => ⟨fun x hx => by
        rcases List.mem_cons.1 hx with rfl | hx
        · simp only; omega
        · exact h.1 x hx, by simp only [List.length_cons]; omega⟩
    rw [bothS]
    apply fin
    split
    · split
      · have := ih r s (by omega) ha' hb'; exact ⟨this.1, by omega⟩
      · have := ih r ((u, d) :: s) (by simp only [List.length_cons]; omega) ha' hb; simp only [List.length_cons] at this; exact ⟨this.1, by omega⟩
    · split
      · have := ih ((t, c) :: r) s (by simp only [List.length_cons]; omega) ha hb'; simp only [List.length_cons] at this; exact ⟨this.1, by omega⟩
      · exact ⟨fun r hr => by simp at hr, by simp⟩
end Go.Proofs.YtflghlmikpfnpaaDoor.E
