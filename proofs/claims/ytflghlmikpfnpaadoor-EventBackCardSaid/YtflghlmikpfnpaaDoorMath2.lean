/-
  Plain mathematics of bit strings, continued: which bits what was put has.
-/
import Derived.Test.YtflghlmikpfnpaaDoorMath
namespace Go.Proofs.YtflghlmikpfnpaaDoor.M

/-- A bit string of n bits, said of all places. -/
structure Inv (l : List Nat) (n : Nat) : Prop where
  len : l.length = (n + 7) / 8
  lt : ∀ x ∈ l, x < 256
  zero : ∀ i, n ≤ i → bitAt l i = 0

theorem bitAt_far (l : List Nat) (i : Nat) (h : l.length ≤ i / 8) : bitAt l i = 0 := by
  unfold bitAt; rw [List.getElem?_eq_none h]; simp
theorem inv_of_valid {l : List Nat} {n : Nat} (hl : ∀ x ∈ l, x < 256) (h : Valid l n) : Inv l n := by
  refine ⟨h.1, hl, fun i hi => ?_⟩
  rcases Nat.lt_or_ge (i / 8) l.length with h1 | h1
  · exact ((valid_iff l hl n).1 h).2.2 i hi (by omega)
  · exact bitAt_far l i h1
theorem valid_of_inv {l : List Nat} {n : Nat} (h : Inv l n) : Valid l n := by
  have := h.len
  exact (valid_iff l h.lt n).2 ⟨by omega, by omega, fun i hi _ => h.zero i hi⟩

theorem elem_lt (l : List Nat) (hl : ∀ x ∈ l, x < 256) (j : Nat) : l[j]?.getD 0 < 256 := by
  rcases Nat.lt_or_ge j l.length with hj | hj
  · rw [List.getElem?_eq_getElem hj]; exact hl _ (List.getElem_mem hj)
  · rw [List.getElem?_eq_none hj]; decide

theorem orBit_bits (L : List Nat) (n b i : Nat) (hL : ∀ x ∈ L, x < 256) (hb : b < 2) (hq : n / 8 < L.length) (hz : bitAt L n = 0) : bitAt (orBit L n b) i = if i = n then b else bitAt L i := by
  have hx := elem_lt L hL (n / 8)
  by_cases hi : i / 8 = n / 8
  · have e : (orBit L n b)[i / 8]?.getD 0 = L[n / 8]?.getD 0 ||| b * 2 ^ (7 - n % 8) := by
      unfold orBit; rw [hi, List.getElem?_set_self hq]; rfl
    by_cases hin : i = n
    · rw [if_pos hin]
      subst hin
      show (orBit L i b)[i / 8]?.getD 0 / 2 ^ (7 - i % 8) % 2 = b
      rw [e]
      exact or_bit_same (i % 8) (Nat.mod_lt _ (by decide)) _ hx b hb hz
    · rw [if_neg hin]
      show (orBit L n b)[i / 8]?.getD 0 / 2 ^ (7 - i % 8) % 2 = L[i / 8]?.getD 0 / 2 ^ (7 - i % 8) % 2
      rw [e, hi]
      exact or_bit_other (n % 8) (Nat.mod_lt _ (by decide)) (i % 8) (Nat.mod_lt _ (by decide)) (by omega) _ hx b hb
  · rw [if_neg (fun e => hi (by rw [e]))]
    unfold bitAt orBit
    rw [List.getElem?_set_ne (fun e => hi e.symm)]

theorem snoc_bits (l : List Nat) (i : Nat) : bitAt (l ++ [0]) i = bitAt l i := by
  unfold bitAt
  rcases Nat.lt_trichotomy (i / 8) l.length with h | h | h
  · rw [List.getElem?_append_left h]
  · rw [List.getElem?_append_right (by omega), List.getElem?_eq_none (l := l) (by omega), h]; simp
  · rw [List.getElem?_eq_none (by simp; omega), List.getElem?_eq_none (by omega)]

theorem step_bits {l : List Nat} {n : Nat} (h : Inv l n) (b : Nat) (hb : b < 2) : ∀ i, bitAt (refStep l n b) i = if i = n then b else bitAt l i := by
  intro i
  have hlen := h.len
  unfold refStep
  by_cases h8 : n % 8 = 0
  · rw [if_pos h8, orBit_bits (l ++ [0]) n b i (fun x hx => (List.mem_append.1 hx).elim (h.lt x) (fun e => by simp at e; omega)) hb (by simp; omega) (by rw [snoc_bits]; exact h.zero n (Nat.le_refl _)), snoc_bits]
  · rw [if_neg h8, orBit_bits l n b i h.lt hb (by omega) (h.zero n (Nat.le_refl _))]
theorem step_inv {l : List Nat} {n : Nat} (h : Inv l n) (b : Nat) (hb : b < 2) : Inv (refStep l n b) (n + 1) :=
  ⟨refStep_length l n b h.len, refStep_lt l n b h.lt hb, fun i hi => by rw [step_bits h b hb, if_neg (by omega)]; exact h.zero i (by omega)⟩

theorem put_inv {l : List Nat} {n : Nat} (bs : List Nat) (h : Inv l n) (hb : ∀ b ∈ bs, b < 2) : Inv (putL l n bs) (n + bs.length) := by
  induction bs generalizing l n with
  | nil => exact h
  | cons b bs ih =>
    have := ih (step_inv h b (hb b (by simp))) (fun x hx => hb x (by simp [hx]))
    rw [putL, List.length_cons, show n + (bs.length + 1) = n + 1 + bs.length by omega]
    exact this
theorem put_bits {l : List Nat} {n : Nat} (bs : List Nat) (h : Inv l n) (hb : ∀ b ∈ bs, b < 2) (i : Nat) : bitAt (putL l n bs) i = if i < n then bitAt l i else bs[i - n]?.getD 0 := by
  induction bs generalizing l n with
  | nil =>
    show bitAt l i = _
    by_cases hi : i < n
    · rw [if_pos hi]
    · rw [if_neg hi, h.zero i (by omega)]; rfl
  | cons b bs ih =>
    rw [putL, ih (step_inv h b (hb b (by simp))) (fun x hx => hb x (by simp [hx])), step_bits h b (hb b (by simp))]
    by_cases h1 : i < n
    · rw [if_pos (by omega), if_neg (by omega), if_pos h1]
    · by_cases h2 : i = n
      · subst h2; rw [if_pos (by omega), if_pos rfl, if_neg (by omega), Nat.sub_self]; rfl
      · rw [if_neg (by omega), if_neg h1, show i - n = (i - (n + 1)) + 1 by omega, List.getElem?_cons_succ]
theorem put_valid {l : List Nat} {n : Nat} (bs : List Nat) (hl : ∀ x ∈ l, x < 256) (h : Valid l n) (hb : ∀ b ∈ bs, b < 2) : Valid (putL l n bs) (n + bs.length) :=
  valid_of_inv (put_inv bs (inv_of_valid hl h) hb)
theorem inv_nil : Inv [] 0 := ⟨rfl, by simp, fun i _ => bitAt_far [] i (by simp)⟩

end Go.Proofs.YtflghlmikpfnpaaDoor.M
