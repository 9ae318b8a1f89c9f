/-
  Plain mathematics of bit strings: lists of bytes as natural numbers, their bits, what is appended, gamma codes. Nothing of the program.
-/
namespace Go.Proofs.YtflghlmikpfnpaaDoor.M

/-- Bit i, the first being the most significant of the first byte. -/
def bitAt (l : List Nat) (i : Nat) : Nat := l[i / 8]?.getD 0 / 2 ^ (7 - i % 8) % 2
theorem bitAt_lt (l : List Nat) (i : Nat) : bitAt l i < 2 := Nat.mod_lt _ (by decide)

/-- A bit string of n bits. -/
def Valid (l : List Nat) (n : Nat) : Prop := l.length = (n + 7) / 8 ∧ (n % 8 ≠ 0 → l[n / 8]?.getD 0 * 2 ^ (n % 8) % 256 = 0)
instance (l : List Nat) (n : Nat) : Decidable (Valid l n) := by unfold Valid; infer_instance
def rightB (l : List Nat) (n : Int) : Bool := decide (0 ≤ n ∧ Valid l n.toNat)
theorem rightB_true {l : List Nat} {n : Int} (h : rightB l n = true) : 0 ≤ n ∧ Valid l n.toNat := of_decide_eq_true h
theorem rightB_nat {l : List Nat} {n : Nat} (h : Valid l n) : rightB l n = true := decide_eq_true ⟨by omega, by simpa using h⟩

theorem last_bits : ∀ r, r < 8 → ∀ x, x < 256 → (x * 2 ^ r % 256 = 0 ↔ ∀ j, j < 8 → r ≤ j → x / 2 ^ (7 - j) % 2 = 0) := by decide +kernel

/-- Valid, as the reference asks it: bit by bit. -/
theorem valid_iff (l : List Nat) (hl : ∀ x ∈ l, x < 256) (n : Nat) :
    Valid l n ↔ n ≤ 8 * l.length ∧ 8 * l.length - n < 8 ∧ ∀ i, n ≤ i → i < 8 * l.length → bitAt l i = 0 := by
  unfold Valid
  constructor
  · rintro ⟨h1, h2⟩
    refine ⟨by omega, by omega, fun i hi hi2 => ?_⟩
    have hr : n % 8 ≠ 0 := by omega
    have hx : l[n / 8]?.getD 0 < 256 := by
      have hlt : n / 8 < l.length := by omega
      rw [List.getElem?_eq_getElem hlt]; exact hl _ (List.getElem_mem hlt)
    have := (last_bits (n % 8) (by omega) _ hx).1 (h2 hr) (i % 8) (by omega) (by omega)
    unfold bitAt
    rw [show i / 8 = n / 8 by omega]; exact this
  · rintro ⟨h1, h2, h3⟩
    refine ⟨by omega, fun hr => ?_⟩
    have hlt : n / 8 < l.length := by omega
    have hx : l[n / 8]?.getD 0 < 256 := by
      rw [List.getElem?_eq_getElem hlt]; exact hl _ (List.getElem_mem hlt)
    refine (last_bits (n % 8) (by omega) _ hx).2 fun j hj hrj => ?_
    have := h3 (8 * (n / 8) + j) (by omega) (by omega)
    unfold bitAt at this
    rw [show (8 * (n / 8) + j) / 8 = n / 8 by omega, show (8 * (n / 8) + j) % 8 = j by omega] at this
    exact this

/-- A number's w bits, the most significant first. -/
def digs (v w : Nat) : List Nat := (List.range w).map fun i => v / 2 ^ (w - 1 - i) % 2
theorem digs_length (v w : Nat) : (digs v w).length = w := by simp [digs]
theorem digs_lt (v w : Nat) : ∀ b ∈ digs v w, b < 2 := by
  intro b hb; simp only [digs, List.mem_map] at hb; obtain ⟨i, _, rfl⟩ := hb; exact Nat.mod_lt _ (by decide)
theorem digs_getElem (v w i : Nat) (h : i < w) : (digs v w)[i]?.getD 0 = v / 2 ^ (w - 1 - i) % 2 := by simp [digs, h]
theorem digs_succ (v w : Nat) : digs v (w + 1) = (v / 2 ^ w % 2) :: digs v w := by
  unfold digs
  rw [List.range_succ_eq_map]
  simp only [List.map_cons, List.map_map, Nat.add_sub_cancel, Nat.sub_zero]
  congr 1
  apply List.map_congr_left
  intro i hi
  simp only [Function.comp, Nat.succ_eq_add_one]
  rw [show w - (i + 1) = w - 1 - i by omega]
theorem digs_append (v u w x : Nat) (hu : u < 2 ^ x) : digs (v * 2 ^ x + u) (w + x) = digs v w ++ digs u x := by
  induction w with
  | zero =>
    simp only [Nat.zero_add]
    have : digs v 0 = [] := rfl
    rw [this, List.nil_append]
    unfold digs
    apply List.map_congr_left
    intro i hi
    have hi : i < x := List.mem_range.1 hi
    have e : v * 2 ^ x + u = u + 2 ^ (x - 1 - i) * (2 ^ i * 2 * v) := by
      have : 2 ^ x = 2 ^ (x - 1 - i) * 2 ^ i * 2 := by
        rw [← Nat.pow_add, ← Nat.pow_succ]; congr 1; omega
      rw [this, Nat.add_comm, Nat.mul_comm v, Nat.mul_assoc, Nat.mul_assoc, Nat.mul_assoc]
    rw [e, Nat.add_mul_div_left _ _ (Nat.two_pow_pos _)]
    rw [Nat.mul_comm (2 ^ i) 2, Nat.mul_assoc, Nat.add_mul_mod_self_left]
  | succ w ih =>
    rw [show w + 1 + x = (w + x) + 1 by omega, digs_succ, digs_succ, ih, List.cons_append]
    congr 1
    rw [Nat.pow_add, Nat.mul_comm (2 ^ w), ← Nat.div_div_eq_div_mul]
    congr 2
    rw [Nat.mul_comm v, Nat.mul_add_div (Nat.two_pow_pos _), Nat.div_eq_of_lt hu, Nat.add_zero]
theorem digs_zero (w : Nat) : digs 0 w = List.replicate w 0 := by
  apply List.ext_getElem
  · simp [digs]
  · intro i h1 h2; simp [digs]
theorem digs_pad (x k w : Nat) (hx : x < 2 ^ k) : digs x (w + k) = List.replicate w 0 ++ digs x k := by
  have := digs_append 0 x w k hx
  rw [Nat.zero_mul, Nat.zero_add, digs_zero] at this; exact this

/-- Bit b put into place i. -/
def orBit (l : List Nat) (i b : Nat) : List Nat := l.set (i / 8) (l[i / 8]?.getD 0 ||| b * 2 ^ (7 - i % 8))
theorem orBit_length (l : List Nat) (i b : Nat) : (orBit l i b).length = l.length := by simp [orBit]
theorem orBit_append (a z : List Nat) (i b : Nat) (h : i / 8 < a.length) : orBit (a ++ z) i b = orBit a i b ++ z := by
  unfold orBit
  rw [List.getElem?_append_left h, List.set_append, if_pos h]
theorem or_lt_256 : ∀ x, x < 256 → ∀ j, j < 8 → ∀ b, b < 2 → (x ||| b * 2 ^ (7 - j)) < 256 := by
  intro x hx j hj b hb
  refine Nat.or_lt_two_pow (n := 8) hx ?_
  have : 2 ^ (7 - j) ≤ 2 ^ 7 := Nat.pow_le_pow_right (by decide) (by omega)
  have h2 : b * 2 ^ (7 - j) ≤ 1 * 2 ^ 7 := Nat.mul_le_mul (by omega) this
  omega
theorem orBit_lt (l : List Nat) (i b : Nat) (hl : ∀ x ∈ l, x < 256) (hb : b < 2) : ∀ x ∈ orBit l i b, x < 256 := by
  intro x hx
  unfold orBit at hx
  rcases List.mem_or_eq_of_mem_set hx with h | rfl
  · exact hl x h
  · refine or_lt_256 _ ?_ _ (Nat.mod_lt _ (by decide)) _ hb
    rcases Nat.lt_or_ge (i / 8) l.length with h | h
    · rw [List.getElem?_eq_getElem h]; exact hl _ (List.getElem_mem h)
    · rw [List.getElem?_eq_none h]; decide

def orBits (l : List Nat) (n : Nat) : List Nat → List Nat
  | [] => l
  | b :: bs => orBits (orBit l n b) (n + 1) bs
theorem orBits_snoc (l : List Nat) (n : Nat) (pre : List Nat) (b : Nat) : orBits l n (pre ++ [b]) = orBit (orBits l n pre) (n + pre.length) b := by
  induction pre generalizing l n with
  | nil => rfl
  | cons a pre ih => simp only [List.cons_append, orBits, ih, List.length_cons]; congr 1; omega
theorem orBits_length (l : List Nat) (n : Nat) (bs : List Nat) : (orBits l n bs).length = l.length := by
  induction bs generalizing l n with
  | nil => rfl
  | cons a bs ih => rw [orBits, ih, orBit_length]
theorem orBits_lt (l : List Nat) (n : Nat) (bs : List Nat) (hl : ∀ x ∈ l, x < 256) (hb : ∀ b ∈ bs, b < 2) : ∀ x ∈ orBits l n bs, x < 256 := by
  induction bs generalizing l n with
  | nil => exact hl
  | cons a bs ih =>
    exact ih _ _ (orBit_lt l n a hl (hb a (by simp))) (fun b h => hb b (by simp [h]))
/-- What the program lays: the bytes with zero bytes behind them, then bit by bit. -/
def pad (l : List Nat) (K : Nat) : List Nat := l ++ List.replicate (K - l.length) 0
theorem pad_lt (l : List Nat) (K : Nat) (hl : ∀ x ∈ l, x < 256) : ∀ x ∈ pad l K, x < 256 := by
  intro x hx
  rcases List.mem_append.1 hx with h | h
  · exact hl x h
  · rw [(List.mem_replicate.1 h).2]; decide
theorem pad_length (l : List Nat) (K : Nat) (h : l.length ≤ K) : (pad l K).length = K := by simp [pad]; omega

/-- What the reference puts: a byte more where one begins. -/
def refStep (l : List Nat) (n b : Nat) : List Nat := orBit (if n % 8 = 0 then l ++ [0] else l) n b
def putL (l : List Nat) (n : Nat) : List Nat → List Nat
  | [] => l
  | b :: bs => putL (refStep l n b) (n + 1) bs
theorem putL_append (l : List Nat) (n : Nat) (a b : List Nat) : putL l n (a ++ b) = putL (putL l n a) (n + a.length) b := by
  induction a generalizing l n with
  | nil => rfl
  | cons x a ih => simp only [List.cons_append, putL, ih, List.length_cons]; congr 1; omega
theorem putL_snoc (l : List Nat) (n : Nat) (pre : List Nat) (b : Nat) : putL l n (pre ++ [b]) = refStep (putL l n pre) (n + pre.length) b := by
  rw [putL_append]; rfl
theorem refStep_length (l : List Nat) (n b : Nat) (h : l.length = (n + 7) / 8) : (refStep l n b).length = (n + 1 + 7) / 8 := by
  unfold refStep; rw [orBit_length]; split
  · rw [List.length_append, List.length_singleton]; omega
  · omega
theorem putL_length (l : List Nat) (n : Nat) (bs : List Nat) (h : l.length = (n + 7) / 8) : (putL l n bs).length = (n + bs.length + 7) / 8 := by
  induction bs generalizing l n with
  | nil => exact h
  | cons a bs ih => rw [putL, ih _ _ (refStep_length l n a h)]; simp; omega
theorem refStep_lt (l : List Nat) (n b : Nat) (hl : ∀ x ∈ l, x < 256) (hb : b < 2) : ∀ x ∈ refStep l n b, x < 256 := by
  unfold refStep
  refine orBit_lt _ _ _ ?_ hb
  split
  · intro x hx; rcases List.mem_append.1 hx with h | h
    · exact hl x h
    · simp at h; omega
  · exact hl
theorem putL_lt (l : List Nat) (n : Nat) (bs : List Nat) (hl : ∀ x ∈ l, x < 256) (hb : ∀ b ∈ bs, b < 2) : ∀ x ∈ putL l n bs, x < 256 := by
  induction bs generalizing l n with
  | nil => exact hl
  | cons a bs ih => exact ih _ _ (refStep_lt l n a hl (hb a (by simp))) (fun b h => hb b (by simp [h]))

/-- The program's bytes are the reference's. -/
theorem lay_eq (l : List Nat) (n : Nat) (bs : List Nat) (h : l.length = (n + 7) / 8) : orBits (pad l ((n + bs.length + 7) / 8)) n bs = putL l n bs := by
  induction bs generalizing l n with
  | nil => simp [orBits, putL, pad, h]
  | cons b bs ih =>
    rw [orBits, putL, ← ih _ _ (refStep_length l n b h)]
    congr 1
    unfold pad
    rw [refStep_length l n b h]
    unfold refStep
    by_cases h8 : n % 8 = 0
    · rw [if_pos h8]
      have e : (n + (b :: bs).length + 7) / 8 - l.length = ((n + 1 + bs.length + 7) / 8 - (n + 1 + 7) / 8) + 1 := by simp; omega
      rw [e, List.replicate_succ, show l ++ 0 :: List.replicate ((n + 1 + bs.length + 7) / 8 - (n + 1 + 7) / 8) 0 = (l ++ [0]) ++ List.replicate ((n + 1 + bs.length + 7) / 8 - (n + 1 + 7) / 8) 0 by simp]
      exact orBit_append _ _ _ _ (by simp; omega)
    · rw [if_neg h8]
      have e : (n + (b :: bs).length + 7) / 8 - l.length = ((n + 1 + bs.length + 7) / 8 - (n + 1 + 7) / 8) := by simp; omega
      rw [e]
      exact orBit_append _ _ _ _ (by omega)

/-- How many bits a number has. -/
def bl (v : Nat) : Nat := if v = 0 then 0 else Nat.log2 v + 1
theorem bl_half (v : Nat) (h : 0 < v) : bl v = bl (v / 2) + 1 := by
  unfold bl
  rw [if_neg (by omega)]
  by_cases h2 : v / 2 = 0
  · rw [if_pos h2, Nat.log2_def, if_neg (by omega)]
  · rw [if_neg h2, Nat.log2_def, if_pos (by omega)]
theorem bl_le (v w : Nat) : bl v ≤ w ↔ v < 2 ^ w := by
  unfold bl
  by_cases h : v = 0
  · rw [if_pos h]; subst h; exact ⟨fun _ => Nat.two_pow_pos _, fun _ => Nat.zero_le _⟩
  · rw [if_neg h, ← Nat.log2_lt h]; omega
theorem bl_pos (v : Nat) (h : 0 < v) : 0 < bl v := by rw [bl_half v h]; omega

/-- The number that k bits from a place on are. -/
def num (l : List Nat) (at_ : Nat) : Nat → Nat
  | 0 => 0
  | k + 1 => (2 * num l at_ k + bitAt l (at_ + k)) % 2 ^ 64
theorem num_lt64 (l : List Nat) (a k : Nat) : num l a k < 2 ^ 64 := by
  cases k with
  | zero => exact Nat.two_pow_pos _
  | succ k => exact Nat.mod_lt _ (Nat.two_pow_pos _)
theorem num_lt (l : List Nat) (a k : Nat) : num l a k < 2 ^ k := by
  induction k with
  | zero => exact Nat.two_pow_pos _
  | succ k ih =>
    have hb := bitAt_lt l (a + k)
    refine Nat.lt_of_le_of_lt (Nat.mod_le _ _) ?_
    rw [Nat.pow_succ]; omega
theorem num_succ (l : List Nat) (a k : Nat) (hk : k < 64) : num l a (k + 1) = 2 * num l a k + bitAt l (a + k) := by
  have h1 := num_lt l a k
  have hb := bitAt_lt l (a + k)
  show (2 * num l a k + bitAt l (a + k)) % 2 ^ 64 = _
  apply Nat.mod_eq_of_lt
  have : 2 ^ (k + 1) ≤ 2 ^ 64 := Nat.pow_le_pow_right (by decide) (by omega)
  rw [Nat.pow_succ] at this; omega

/-- What was put is there, and what was there stays. -/
theorem or_bit_same : ∀ j, j < 8 → ∀ x, x < 256 → ∀ b, b < 2 → x / 2 ^ (7 - j) % 2 = 0 → (x ||| b * 2 ^ (7 - j)) / 2 ^ (7 - j) % 2 = b := by decide +kernel
theorem or_bit_other : ∀ j, j < 8 → ∀ k, k < 8 → k ≠ j → ∀ x, x < 256 → ∀ b, b < 2 → (x ||| b * 2 ^ (7 - j)) / 2 ^ (7 - k) % 2 = x / 2 ^ (7 - k) % 2 := by decide +kernel

end Go.Proofs.YtflghlmikpfnpaaDoor.M
