/-
  Plain facts on trees' bits: they are one-to-one, and read as they are. No program here.
-/
import Derived.Test.YtkpefelakhbkhaaITMath
namespace Go.Proofs.Ytkpefelakhbkhaa.I

def bitsT : Tr → List Nat
  | .leaf false => [0, 0]
  | .leaf true => [0, 1]
  | .node x y => 1 :: (bitsT x ++ bitsT y)
theorem bits_lt : ∀ t : Tr, ∀ b ∈ bitsT t, b < 2
  | .leaf true, b, h => by simp [bitsT] at h; omega
  | .leaf false, b, h => by simp [bitsT] at h; omega
  | .node x y, b, h => by
    simp only [bitsT, List.mem_cons, List.mem_append] at h
    rcases h with h | h | h
    · omega
    · exact bits_lt x b h
    · exact bits_lt y b h
theorem bits_len : ∀ t : Tr, 2 * (bitsT t).length = 3 * t.nodes + 1
  | .leaf true => rfl
  | .leaf false => rfl
  | .node x y => by have := bits_len x; have := bits_len y; simp [bitsT, Tr.nodes]; omega
theorem bits_pos (t : Tr) : 2 ≤ (bitsT t).length := by have := bits_len t; have := t.nodes_pos; omega
/-- The tree whose bits stand at a place, ahead of n, and the place behind; d - 1 is the depth that is left. -/
def rb (B : Nat → Nat) (n : Nat) : Nat → Nat → Option (Tr × Nat)
  | 0, _ => none
  | d + 1, a => if a < n then (if B a = 0 then (if a + 1 < n then some (.leaf (decide (B (a + 1) = 1)), a + 2) else none) else
      (match rb B n d (a + 1) with
        | none => none
        | some r => (match rb B n d r.2 with
          | none => none
          | some q => some (.node r.1 q.1, q.2)))) else none
/-- The same, of normal forms. -/
def tb (B : Nat → Nat) (n : Nat) : Nat → Nat → Option (Tr × Nat)
  | 0, _ => none
  | d + 1, a => if a < n then (if B a = 0 then (if a + 1 < n then some (.leaf (decide (B (a + 1) = 1)), a + 2) else none) else
      (match tb B n d (a + 1) with
        | none => none
        | some r => (match tb B n d r.2 with
          | none => none
          | some q => if alikeT r.1 q.1 = true then none else some (.node r.1 q.1, q.2)))) else none
theorem tb_rb (B : Nat → Nat) (n : Nat) : ∀ (d a : Nat) (t : Tr) (p : Nat), tb B n d a = some (t, p) ↔ rb B n d a = some (t, p) ∧ t.norm = t
  | 0, a, t, p => by simp [tb, rb]
  | d + 1, a, t, p => by
    simp only [tb, rb]
    by_cases h0 : a < n
    · rw [if_pos h0, if_pos h0]
      by_cases h1 : B a = 0
      · rw [if_pos h1, if_pos h1]
        by_cases h2 : a + 1 < n
        · rw [if_pos h2]
          constructor
          · intro h; refine ⟨h, ?_⟩; injection h with h; injection h with h _; subst h; rfl
          · exact fun h => h.1
        · rw [if_neg h2]; simp
      · rw [if_neg h1, if_neg h1]
        have i1 := tb_rb B n d (a + 1)
        constructor
        · intro h
          cases hx : tb B n d (a + 1) with
          | none => rw [hx] at h; cases h
          | some r =>
            obtain ⟨r1, r2⟩ := r
            obtain ⟨k1, k2⟩ := (i1 r1 r2).1 hx
            rw [hx] at h
            simp only at h
            rw [k1]
            simp only
            cases hy : tb B n d r2 with
            | none => rw [hy] at h; cases h
            | some q =>
              obtain ⟨q1, q2⟩ := q
              obtain ⟨k3, k4⟩ := (tb_rb B n d r2 q1 q2).1 hy
              rw [hy] at h
              simp only at h
              rw [k3]
              simp only
              cases ha : alikeT r1 q1 with
              | true => rw [ha] at h; simp at h
              | false =>
                rw [ha] at h
                simp only [Bool.false_eq_true, if_false] at h
                refine ⟨h, ?_⟩
                injection h with h; injection h with h _
                rw [← h, norm_node]
                exact ⟨k2, k4, ha⟩
        · rintro ⟨h, hn⟩
          cases hx : rb B n d (a + 1) with
          | none => rw [hx] at h; cases h
          | some r =>
            obtain ⟨r1, r2⟩ := r
            rw [hx] at h
            simp only at h
            cases hy : rb B n d r2 with
            | none => rw [hy] at h; cases h
            | some q =>
              obtain ⟨q1, q2⟩ := q
              rw [hy] at h
              simp only at h
              injection h with h; injection h with e1 e2
              rw [← e1, norm_node] at hn
              rw [(i1 r1 r2).2 ⟨hx, hn.1⟩]
              simp only
              rw [(tb_rb B n d r2 q1 q2).2 ⟨hy, hn.2.1⟩]
              simp only
              rw [hn.2.2, ← e1, ← e2]
              simp
    · rw [if_neg h0, if_neg h0]; simp
/-- What was read are the tree's bits. -/
theorem rb_bits (B : Nat → Nat) (n : Nat) (hB : ∀ i, B i < 2) : ∀ (d a : Nat) (t : Tr) (p : Nat), rb B n d a = some (t, p) → (∀ i, i < (bitsT t).length → B (a + i) = (bitsT t)[i]?.getD 0) ∧ p = a + (bitsT t).length ∧ p ≤ n ∧ t.depth < d
  | 0, a, t, p, h => by simp [rb] at h
  | d + 1, a, t, p, h => by
    simp only [rb] at h
    by_cases h0 : a < n
    · rw [if_pos h0] at h
      by_cases h1 : B a = 0
      · rw [if_pos h1] at h
        by_cases h2 : a + 1 < n
        · rw [if_pos h2] at h
          injection h with h; injection h with e1 e2; subst e1; subst e2
          have hb := hB (a + 1)
          by_cases h3 : B (a + 1) = 1
          · rw [decide_eq_true h3]
            refine ⟨fun i hi => ?_, rfl, by omega, by simp [Tr.depth]⟩
            simp [bitsT] at hi ⊢
            rcases (by omega : i = 0 ∨ i = 1) with rfl | rfl
            · simpa using h1
            · simpa using h3
          · rw [decide_eq_false h3]
            refine ⟨fun i hi => ?_, rfl, by omega, by simp [Tr.depth]⟩
            simp [bitsT] at hi ⊢
            rcases (by omega : i = 0 ∨ i = 1) with rfl | rfl
            · simpa using h1
            · simp; omega
        · rw [if_neg h2] at h; cases h
      · rw [if_neg h1] at h
        cases hx : rb B n d (a + 1) with
        | none => rw [hx] at h; cases h
        | some r =>
          obtain ⟨r1, r2⟩ := r
          rw [hx] at h
          simp only at h
          obtain ⟨k1, k2, k3, k4⟩ := rb_bits B n hB d (a + 1) r1 r2 hx
          cases hy : rb B n d r2 with
          | none => rw [hy] at h; cases h
          | some q =>
            obtain ⟨q1, q2⟩ := q
            rw [hy] at h
            simp only at h
            obtain ⟨m1, m2, m3, m4⟩ := rb_bits B n hB d r2 q1 q2 hy
            injection h with h; injection h with e1 e2; subst e1; subst e2
            have hb := hB a
            refine ⟨fun i hi => ?_, by simp [bitsT]; omega, m3, by simp only [Tr.depth]; omega⟩
            simp only [bitsT, List.length_cons, List.length_append] at hi ⊢
            cases i with
            | zero => simp; omega
            | succ i =>
              rw [List.getElem?_cons_succ]
              rcases Nat.lt_or_ge i (bitsT r1).length with hl | hl
              · rw [List.getElem?_append_left hl, ← k1 i hl]; congr 1; omega
              · rw [List.getElem?_append_right hl, ← m1 (i - (bitsT r1).length) (by omega)]; congr 1; omega
    · rw [if_neg h0] at h; cases h
/-- A tree's bits are read. -/
theorem rb_of (B : Nat → Nat) (n : Nat) : ∀ (t : Tr) (d a : Nat), t.depth < d → (∀ i, i < (bitsT t).length → B (a + i) = (bitsT t)[i]?.getD 0) → a + (bitsT t).length ≤ n → rb B n d a = some (t, a + (bitsT t).length)
  | t, 0, a, h, _, _ => by omega
  | .leaf o, d + 1, a, h, hb, hn => by
    have b0 := hb 0 (by cases o <;> simp [bitsT])
    have b1 := hb 1 (by cases o <;> simp [bitsT])
    cases o <;> simp [bitsT] at b0 b1 hn ⊢ <;> simp [rb, b0, b1] <;> omega
  | .node x y, d + 1, a, h, hb, hn => by
    simp only [Tr.depth] at h
    simp only [bitsT, List.length_cons, List.length_append] at hb hn ⊢
    have b0 := hb 0 (by omega)
    simp at b0
    have i1 := rb_of B n x d (a + 1) (by omega) (fun i hi => by
      have := hb (i + 1) (by omega)
      rw [List.getElem?_cons_succ, List.getElem?_append_left hi] at this
      rw [← this]; congr 1; omega) (by omega)
    have i2 := rb_of B n y d (a + 1 + (bitsT x).length) (by omega) (fun i hi => by
      have := hb (i + (bitsT x).length + 1) (by omega)
      rw [List.getElem?_cons_succ, List.getElem?_append_right (by omega)] at this
      rw [show i + (bitsT x).length - (bitsT x).length = i by omega] at this
      rw [← this]; congr 1; omega) (by omega)
    have ha : a < n := by omega
    simp only [rb, ha, if_true, b0, i1, i2]
    simp
    omega
/-- The normal form whose bits stand at a place. -/
def takeO (B : Nat → Nat) (n a : Nat) : Option (Tr × Nat) := tb B (min n (a + 3071)) 33 a
theorem takeO_iff (B : Nat → Nat) (hB : ∀ i, B i < 2) (n a : Nat) (t : Tr) (p : Nat) : takeO B n a = some (t, p) ↔ rb B n 33 a = some (t, p) ∧ t.norm = t ∧ t.nodes ≤ 2047 := by
  unfold takeO
  rw [tb_rb]
  have hl := bits_len t
  constructor
  · rintro ⟨h1, h2⟩
    obtain ⟨k1, k2, k3, k4⟩ := rb_bits B _ hB 33 a t p h1
    have := rb_of B n t 33 a k4 k1 (by omega)
    exact ⟨by rw [this, k2], h2, by omega⟩
  · rintro ⟨h1, h2, h3⟩
    obtain ⟨k1, k2, k3, k4⟩ := rb_bits B _ hB 33 a t p h1
    have := rb_of B (min n (a + 3071)) t 33 a k4 k1 (by omega)
    exact ⟨by rw [this, k2], h2⟩
end Go.Proofs.Ytkpefelakhbkhaa.I
