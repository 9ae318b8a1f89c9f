/-
  Ranges that do not meet.
-/
import Derived.Test.YtkpefelakhbkhaaISame
namespace Go.Proofs.Ytkpefelakhbkhaa.I

theorem mass_succ (l : List (Nat × Nat)) (b m : Nat) : mass l b (m + 1) = mass l b m + mass l (b + m) 1 := by
  induction l with
  | nil => rfl
  | cons r l ih => rw [mass_cons, mass_cons, mass_cons, ih]; unfold clip; omega
theorem mass_zero (l : List (Nat × Nat)) (b : Nat) : mass l b 0 = 0 := by
  induction l with
  | nil => rfl
  | cons r l ih => rw [mass_cons, ih]; unfold clip; omega
theorem mass_unit (l : List (Nat × Nat)) (h : ∀ x, mass l x 1 ≤ 1) (b : Nat) : ∀ m, mass l b m ≤ m
  | 0 => by rw [mass_zero]; omega
  | m + 1 => by have := mass_unit l h b m; have := h (b + m); rw [mass_succ]; omega
theorem mass_pos (l : List (Nat × Nat)) (x : Nat) (h : 0 < mass l x 1) : ∃ r ∈ l, r.1 ≤ x ∧ x < r.2 := by
  induction l with
  | nil => simp [mass_nil] at h
  | cons r l ih =>
    rw [mass_cons] at h
    by_cases hc : 0 < clip r x 1
    · exact ⟨r, List.mem_cons_self, by unfold clip at hc; omega⟩
    · obtain ⟨q, hq, h2⟩ := ih (by omega)
      exact ⟨q, List.mem_cons_of_mem _ hq, h2⟩
theorem apart_unit (l m : List (Nat × Nat)) (h : meetL l m = false) (hl : ∀ x, mass l x 1 ≤ 1) (hm : ∀ x, mass m x 1 ≤ 1) (x : Nat) : mass (l ++ m) x 1 ≤ 1 := by
  rw [mass_append]
  have h1 := hl x
  have h2 := hm x
  by_cases hb : 0 < mass l x 1 ∧ 0 < mass m x 1
  · obtain ⟨r, hr, r1, r2⟩ := mass_pos l x hb.1
    obtain ⟨q, hq, q1, q2⟩ := mass_pos m x hb.2
    have hn : meetR r m = false := by
      unfold meetL at h
      have := List.any_eq_false.1 h r hr
      simpa using this
    unfold meetR at hn
    have hmem : cutR q r.1 (r.2 - r.1) ∈ withinL m r.1 (r.2 - r.1) := by
      unfold withinL
      refine List.mem_filter.2 ⟨List.mem_map.2 ⟨q, hq, rfl⟩, decide_eq_true ?_⟩
      unfold cutR; simp only; omega
    have := List.length_pos_of_mem hmem
    rw [decide_eq_true this] at hn
    cases hn
  · omega
theorem ranges_unit (t : Tr) (k a x : Nat) (h : t.depth ≤ k) : mass (ranges t a (2 ^ k)) x 1 ≤ 1 := by
  have := ranges_mass t k a x 1 h
  have := Nat.two_pow_pos k
  omega
theorem apart_mu (s t : Tr) (k a : Nat) (hs : s.depth ≤ k) (ht : t.depth ≤ k) (h : meetL (ranges s a (2 ^ k)) (ranges t a (2 ^ k)) = false) (b j : Nat) : mu (ranges s a (2 ^ k) ++ ranges t a (2 ^ k)) b j ≤ 2 ^ j :=
  mass_unit _ (apart_unit _ _ h (fun x => ranges_unit s k a x hs) (fun x => ranges_unit t k a x ht)) b _
/-- The sum of two trees that do not meet. -/
def sumT : Tr → Tr → Tr
  | .leaf false, y => y
  | .leaf true, _ => .leaf true
  | .node a b, .leaf false => .node a b
  | .node _ _, .leaf true => .leaf true
  | .node a b, .node c d => .node (sumT a c) (sumT b d)
/-- Does some piece lie in both? -/
def bothT : Tr → Tr → Bool
  | .leaf false, _ => false
  | .leaf true, y => !(eqT y.norm (.leaf false))
  | .node a b, .leaf o => o && !(eqT (Tr.node a b).norm (.leaf false))
  | .node a b, .node c d => bothT a c || bothT b d
end Go.Proofs.Ytkpefelakhbkhaa.I
