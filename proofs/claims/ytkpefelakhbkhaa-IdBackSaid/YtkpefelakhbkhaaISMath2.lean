/-
  Trees that meet, by their ranges; the sum of two that do not.
-/
import Derived.Test.YtkpefelakhbkhaaISMath
namespace Go.Proofs.Ytkpefelakhbkhaa.I

theorem mass_mem (l : List (Nat × Nat)) (x : Nat) (r : Nat × Nat) (hr : r ∈ l) (h1 : r.1 ≤ x) (h2 : x < r.2) : 0 < mass l x 1 := by
  induction l with
  | nil => cases hr
  | cons q l ih =>
    rw [mass_cons]
    rcases List.mem_cons.1 hr with rfl | h
    · unfold clip; omega
    · have := ih h; omega
theorem meetL_iff (l m : List (Nat × Nat)) : meetL l m = true ↔ ∃ x, 0 < mass l x 1 ∧ 0 < mass m x 1 := by
  constructor
  · intro h
    unfold meetL at h
    obtain ⟨r, hr, h⟩ := List.any_eq_true.1 h
    unfold meetR at h
    have h := of_decide_eq_true h
    obtain ⟨y, hy⟩ := List.exists_mem_of_length_pos h
    unfold withinL at hy
    obtain ⟨h1, h2⟩ := List.mem_filter.1 hy
    obtain ⟨q, hq, rfl⟩ := List.mem_map.1 h1
    have h2 := of_decide_eq_true h2
    unfold cutR at h2
    simp only at h2
    exact ⟨max q.1 r.1, mass_mem l _ r hr (by omega) (by omega), mass_mem m _ q hq (by omega) (by omega)⟩
  · rintro ⟨x, h1, h2⟩
    obtain ⟨r, hr, r1, r2⟩ := mass_pos l x h1
    obtain ⟨q, hq, q1, q2⟩ := mass_pos m x h2
    unfold meetL
    refine List.any_eq_true.2 ⟨r, hr, ?_⟩
    unfold meetR
    refine decide_eq_true (List.length_pos_of_mem (a := cutR q r.1 (r.2 - r.1)) ?_)
    unfold withinL
    refine List.mem_filter.2 ⟨List.mem_map.2 ⟨q, hq, rfl⟩, decide_eq_true ?_⟩
    unfold cutR; simp only; omega
/-- Does a piece lie in a tree? -/
def Has (t : Tr) (k a x : Nat) : Prop := 0 < mass (ranges t a (2 ^ k)) x 1
theorem Has.lim {t : Tr} {k a x : Nat} (hd : t.depth ≤ k) (h : Has t k a x) : a ≤ x ∧ x < a + 2 ^ k := by
  obtain ⟨r, hr, h1, h2⟩ := mass_pos _ _ h
  have := ranges_in t k a hd r hr
  omega
theorem has_false (k a x : Nat) : ¬ Has (.leaf false) k a x := by simp [Has, ranges, mass_nil]
theorem has_true (k a x : Nat) : Has (.leaf true) k a x ↔ a ≤ x ∧ x < a + 2 ^ k := by
  unfold Has
  simp only [ranges, if_true, mass_cons, mass_nil]
  unfold clip
  simp only
  omega
theorem has_node (p q : Tr) (k a x : Nat) : Has (.node p q) (k + 1) a x ↔ Has p k a x ∨ Has q k (a + 2 ^ k) x := by
  unfold Has
  have e2 : 2 ^ (k + 1) / 2 = 2 ^ k := by rw [Nat.pow_succ]; omega
  simp only [ranges, e2, mass_append]
  omega
theorem mass_one_le (l : List (Nat × Nat)) (b x : Nat) (hb : b ≤ x) : ∀ m, x < b + m → mass l x 1 ≤ mass l b m
  | 0, h => by omega
  | m + 1, h => by
    have e := mass_succ l b m
    by_cases he : x = b + m
    · subst he; omega
    · have := mass_one_le l b x hb m (by omega); omega
theorem mass_some (l : List (Nat × Nat)) (b : Nat) : ∀ m, 0 < mass l b m → ∃ x, 0 < mass l x 1
  | 0, h => by rw [mass_zero] at h; omega
  | m + 1, h => by
    rw [mass_succ] at h
    by_cases h1 : 0 < mass l (b + m) 1
    · exact ⟨_, h1⟩
    · exact mass_some l b m (by omega)
theorem has_some (t : Tr) (k a : Nat) (hd : t.depth ≤ k) : (∃ x, Has t k a x) ↔ t.norm ≠ .leaf false := by
  have hm : mass (ranges t a (2 ^ k)) a (2 ^ k) = t.meas k := (cov_ranges _ t k a hd fun _ _ _ _ => rfl).meas
  rw [Ne, ← Tr.meas_zero t k hd, ← hm]
  constructor
  · rintro ⟨x, h⟩
    have hl := Has.lim hd h
    have := mass_one_le (ranges t a (2 ^ k)) a x hl.1 (2 ^ k) hl.2
    unfold Has at h
    omega
  · intro h
    exact mass_some _ a (2 ^ k) (by omega)
theorem both_iff : ∀ (s t : Tr) (k a : Nat), s.depth ≤ k → t.depth ≤ k → (bothT s t = true ↔ ∃ x, Has s k a x ∧ Has t k a x)
  | .leaf false, t, k, a, _, _ => by simp [bothT, has_false]
  | .leaf true, t, k, a, _, ht => by
    have e : bothT (.leaf true) t = !(eqT t.norm (.leaf false)) := by cases t <;> rfl
    rw [e, Bool.not_eq_true', ← Bool.not_eq_true, eqT_iff, ← Ne, ← has_some t k a ht]
    constructor
    · rintro ⟨x, h⟩; exact ⟨x, (has_true k a x).2 (Has.lim ht h), h⟩
    · rintro ⟨x, _, h⟩; exact ⟨x, h⟩
  | .node p q, .leaf false, k, a, _, _ => by simp [bothT, has_false]
  | .node p q, .leaf true, k, a, hs, _ => by
    have e : bothT (.node p q) (.leaf true) = !(eqT (Tr.node p q).norm (.leaf false)) := by simp [bothT]
    rw [e, Bool.not_eq_true', ← Bool.not_eq_true, eqT_iff, ← Ne, ← has_some (.node p q) k a hs]
    constructor
    · rintro ⟨x, h⟩; exact ⟨x, h, (has_true k a x).2 (Has.lim hs h)⟩
    · rintro ⟨x, h, _⟩; exact ⟨x, h⟩
  | .node _ _, .node _ _, 0, _, hs, _ => by simp [Tr.depth] at hs
  | .node p q, .node u v, k + 1, a, hs, ht => by
    simp only [Tr.depth] at hs ht
    have h1 := both_iff p u k a (by omega) (by omega)
    have h2 := both_iff q v k (a + 2 ^ k) (by omega) (by omega)
    simp only [bothT, Bool.or_eq_true, h1, h2, has_node]
    constructor
    · rintro (⟨x, h, g⟩ | ⟨x, h, g⟩)
      · exact ⟨x, .inl h, .inl g⟩
      · exact ⟨x, .inr h, .inr g⟩
    · rintro ⟨x, h | h, g | g⟩
      · exact .inl ⟨x, h, g⟩
      · have := Has.lim (by omega) h; have := Has.lim (by omega) g; omega
      · have := Has.lim (by omega) h; have := Has.lim (by omega) g; omega
      · exact .inr ⟨x, h, g⟩
theorem meet_both (s t : Tr) (k a : Nat) (hs : s.depth ≤ k) (ht : t.depth ≤ k) : meetL (ranges s a (2 ^ k)) (ranges t a (2 ^ k)) = bothT s t := by
  rw [Bool.eq_iff_iff, meetL_iff, both_iff s t k a hs ht]; rfl
theorem mu_none (t : Tr) (k a : Nat) (hd : t.depth ≤ k) (h : t.norm = .leaf false) (b j : Nat) : mu (ranges t a (2 ^ k)) b j = 0 := by
  unfold mu
  rcases Nat.eq_zero_or_pos (mass (ranges t a (2 ^ k)) b (2 ^ j)) with h0 | h0
  · exact h0
  · obtain ⟨x, hx⟩ := mass_some _ _ _ h0
    exact absurd h ((has_some t k a hd).1 ⟨x, hx⟩)
theorem cov_sum (L : List (Nat × Nat)) : ∀ (s t : Tr) (k a : Nat), s.depth ≤ k → t.depth ≤ k → bothT s t = false → (∀ j b, a ≤ b → b + 2 ^ j ≤ a + 2 ^ k → mu L b j = mu (ranges s a (2 ^ k)) b j + mu (ranges t a (2 ^ k)) b j) → Tr.Cov (mu L) (sumT s t) k a
  | .leaf false, t, k, a, _, ht, _, h => by
    have e : sumT (.leaf false) t = t := by cases t <;> rfl
    rw [e]
    refine cov_ranges L t k a ht fun j b h1 h2 => ?_
    rw [h j b h1 h2]
    simp [ranges, mu, mass_nil]
  | .leaf true, t, k, a, _, ht, hb, h => by
    have e : sumT (.leaf true) t = .leaf true := by cases t <;> rfl
    have e2 : bothT (.leaf true) t = !(eqT t.norm (.leaf false)) := by cases t <;> rfl
    rw [e2, Bool.not_eq_false', eqT_iff] at hb
    rw [e]
    show mu L a k = _
    rw [h k a (Nat.le_refl _) (Nat.le_refl _), mu_none t k a ht hb]
    simp [ranges, mu, mass_cons, mass_nil, clip]
  | .node p q, .leaf false, k, a, hs, _, _, h => by
    refine cov_ranges L (.node p q) k a hs fun j b h1 h2 => ?_
    rw [h j b h1 h2]
    simp [show ranges (.leaf false) a (2 ^ k) = [] from rfl, mu, mass_nil]
  | .node p q, .leaf true, k, a, hs, _, hb, h => by
    have e2 : bothT (.node p q) (.leaf true) = !(eqT (Tr.node p q).norm (.leaf false)) := by simp [bothT]
    rw [e2, Bool.not_eq_false', eqT_iff] at hb
    show mu L a k = _
    rw [h k a (Nat.le_refl _) (Nat.le_refl _), mu_none (.node p q) k a hs hb]
    simp [show ranges (.leaf true) a (2 ^ k) = [(a, a + 2 ^ k)] from rfl, mu, mass_cons, mass_nil, clip]
  | .node _ _, .node _ _, 0, _, hs, _, _, _ => by simp [Tr.depth] at hs
  | .node p q, .node u v, k + 1, a, hs, ht, hb, h => by
    simp only [Tr.depth] at hs ht
    have hp := Nat.two_pow_pos k
    have e2 : 2 ^ (k + 1) / 2 = 2 ^ k := by rw [Nat.pow_succ]; omega
    simp only [bothT, Bool.or_eq_false_iff] at hb
    simp only [ranges, e2] at h
    refine ⟨cov_sum L p u k a (by omega) (by omega) hb.1 fun j b h1 h2 => ?_, cov_sum L q v k (a + 2 ^ k) (by omega) (by omega) hb.2 fun j b h1 h2 => ?_, mu_two L a k⟩
    · rw [h j b h1 (by rw [Nat.pow_succ]; omega)]
      unfold mu
      rw [mass_append, mass_append, mass_out (ranges q (a + 2 ^ k) (2 ^ k)) b (2 ^ j) (a + 2 ^ k) (2 ^ k) (ranges_in q k (a + 2 ^ k) (by omega)) (.inl h2), mass_out (ranges v (a + 2 ^ k) (2 ^ k)) b (2 ^ j) (a + 2 ^ k) (2 ^ k) (ranges_in v k (a + 2 ^ k) (by omega)) (.inl h2)]
      omega
    · rw [h j b (by omega) (by rw [Nat.pow_succ]; omega)]
      unfold mu
      rw [mass_append, mass_append, mass_out (ranges p a (2 ^ k)) b (2 ^ j) a (2 ^ k) (ranges_in p k a (by omega)) (.inr h1), mass_out (ranges u a (2 ^ k)) b (2 ^ j) a (2 ^ k) (ranges_in u k a (by omega)) (.inr h1)]
      omega
theorem build_sum (s t : Tr) (k a : Nat) (hs : s.depth ≤ k) (ht : t.depth ≤ k) (h : bothT s t = false) : Tr.build (mu (ranges s a (2 ^ k) ++ ranges t a (2 ^ k))) k a = (sumT s t).norm :=
  Tr.build_norm _ k a (cov_sum _ s t k a hs ht h fun _ _ _ _ => mass_append _ _ _ _)
end Go.Proofs.Ytkpefelakhbkhaa.I
