/-
  Plain mathematics of gamma codes: which one stands at a place.
-/
import Derived.Test.YtflghlmikpfnpaaDoorMath2
namespace Go.Proofs.YtflghlmikpfnpaaDoor.M

/-- How many zero bits lead, of k from a place on. -/
def lead (l : List Nat) (a : Nat) : Nat → Nat
  | 0 => 0
  | k + 1 => if bitAt l a = 0 then lead l (a + 1) k + 1 else 0
theorem lead_le (l : List Nat) (a k : Nat) : lead l a k ≤ k := by
  induction k generalizing a with
  | zero => exact Nat.le_refl _
  | succ k ih => unfold lead; split
                 · have := ih (a + 1); omega
                 · omega
theorem lead_eq (l : List Nat) (a k z : Nat) (hz : z ≤ k) (h0 : ∀ j, j < z → bitAt l (a + j) = 0) (h1 : z = k ∨ bitAt l (a + z) ≠ 0) : lead l a k = z := by
  induction z generalizing a k with
  | zero =>
    cases k with
    | zero => rfl
    | succ k =>
      unfold lead
      rw [if_neg]
      rcases h1 with h | h
      · omega
      · exact h
  | succ z ih =>
    obtain ⟨k', rfl⟩ : ∃ k', k = k' + 1 := ⟨k - 1, by omega⟩
    unfold lead
    rw [if_pos (by simpa using h0 0 (by omega)), ih (a + 1) k' (by omega) (fun j hj => by rw [show a + 1 + j = a + (j + 1) by omega]; exact h0 (j + 1) (by omega)) (by rw [show a + 1 + z = a + (z + 1) by omega]; rcases h1 with h | h; exact .inl (by omega); exact .inr h)]
theorem lead_zero (l : List Nat) (a k j : Nat) (h : j < lead l a k) : bitAt l (a + j) = 0 := by
  induction k generalizing a j with
  | zero => exact absurd h (by simp [lead])
  | succ k ih =>
    unfold lead at h
    split at h
    · rename_i h0
      cases j with
      | zero => exact h0
      | succ j => have := ih (a + 1) j (by omega); rwa [show a + 1 + j = a + (j + 1) by omega] at this
    · exact absurd h (by omega)
theorem lead_one (l : List Nat) (a k : Nat) (h : lead l a k < k) : bitAt l (a + lead l a k) = 1 := by
  induction k generalizing a with
  | zero => exact absurd h (by simp)
  | succ k ih =>
    unfold lead at h ⊢
    split
    · rename_i h0
      rw [if_pos h0] at h
      have := ih (a + 1) (by omega)
      rwa [show a + 1 + lead l (a + 1) k = a + (lead l (a + 1) k + 1) by omega] at this
    · rename_i h0
      have := bitAt_lt l a
      show bitAt l (a + 0) = 1
      rw [Nat.add_zero]; omega

theorem num_ge (l : List Nat) (a k : Nat) (h : bitAt l a = 1) (hk : k ≤ 63) : 2 ^ k ≤ num l a (k + 1) := by
  induction k with
  | zero => rw [num_succ l a 0 (by decide), Nat.add_zero, h]; simp
  | succ k ih =>
    have := ih (by omega)
    rw [num_succ l a (k + 1) (by omega), Nat.pow_succ]; omega

/-- The number whose gamma code stands at a place, and where it ends. -/
def ownN (l : List Nat) (n a : Nat) : Option (Nat × Nat) :=
  if a + 2 * lead l a (n - a) + 1 ≤ n ∧ lead l a (n - a) ≤ 62 ∧ num l (a + lead l a (n - a)) (lead l a (n - a) + 1) ≤ 4611686018427387904 then
    some (num l (a + lead l a (n - a)) (lead l a (n - a) + 1) - 1, a + 2 * lead l a (n - a) + 1) else none

theorem own_some {l : List Nat} {n a z : Nat} (hz : lead l a (n - a) = z) (h1 : a + 2 * z + 1 ≤ n) (h2 : z ≤ 62) (h3 : num l (a + z) (z + 1) ≤ 4611686018427387904) : ownN l n a = some (num l (a + z) (z + 1) - 1, a + 2 * z + 1) := by
  unfold ownN; rw [hz, if_pos ⟨h1, h2, h3⟩]
theorem own_none {l : List Nat} {n a z : Nat} (hz : lead l a (n - a) = z) (h : ¬ (a + 2 * z + 1 ≤ n ∧ z ≤ 62 ∧ num l (a + z) (z + 1) ≤ 4611686018427387904)) : ownN l n a = none := by
  unfold ownN; rw [hz, if_neg h]

/-- What TakeOwn answers: the number, the place behind, the error. -/
def ownV (l : List Nat) (n a : Int) : Int × Int × Int :=
  if rightB l n = true ∧ 0 ≤ a ∧ a ≤ n then
    match ownN l n.toNat a.toNat with
    | some (x, e) => ((x : Int), (e : Int), 0)
    | none => (0, 0, 10)
  else (0, 0, 2)
theorem ownV_arg {l : List Nat} {n a : Int} (h : ¬ (rightB l n = true ∧ 0 ≤ a ∧ a ≤ n)) : ownV l n a = (0, 0, 2) := if_neg h
theorem ownV_none {l : List Nat} {n a : Nat} (hR : rightB l n = true) (ha : a ≤ n) (h : ownN l n a = none) : ownV l n a = (0, 0, 10) := by
  unfold ownV; rw [if_pos ⟨hR, by omega, by omega⟩, Int.toNat_natCast, Int.toNat_natCast, h]
theorem ownV_some {l : List Nat} {n a x e : Nat} (hR : rightB l n = true) (ha : a ≤ n) (h : ownN l n a = some (x, e)) : ownV l n a = ((x : Int), (e : Int), 0) := by
  unfold ownV; rw [if_pos ⟨hR, by omega, by omega⟩, Int.toNat_natCast, Int.toNat_natCast, h]

end Go.Proofs.YtflghlmikpfnpaaDoor.M
