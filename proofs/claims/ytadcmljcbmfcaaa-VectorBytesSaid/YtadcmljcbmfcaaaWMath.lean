/-
  Plain mathematics of the encoding of numbers, of the checksum and of sealed records, over lists of bytes.
-/
import Derived.WalkKit
namespace Go.Proofs.Ytadcmljcbmfcaaa.Wi
namespace M

/-- Bytes that follow the first one. -/
def folF (n : Nat) : Nat → Nat → Nat
  | 0, j => j
  | f + 1, j => if n < 2 ^ (7 * j + 7) then j else folF n f (j + 1)
def fol (n : Nat) : Nat := folF n 8 0
theorem folF_yes (n f j : Nat) (h : n < 2 ^ (7 * j + 7)) (hf : 0 < f) : folF n f j = j := by
  cases f with
  | zero => omega
  | succ f => simp [folF, h]
theorem folF_no (n f j : Nat) (h : ¬ n < 2 ^ (7 * j + 7)) : folF n (f + 1) j = folF n f (j + 1) := by simp [folF, h]
theorem fol_eq (n : Nat) : fol n = if n < 128 then 0 else if n < 16384 then 1 else if n < 2097152 then 2 else if n < 268435456 then 3 else if n < 34359738368 then 4 else if n < 4398046511104 then 5 else if n < 562949953421312 then 6 else if n < 72057594037927936 then 7 else 8 := by
  simp [fol, folF]
theorem fol_le (n : Nat) : fol n ≤ 8 := by
  rw [fol_eq]; repeat' split
  all_goals omega
theorem fol_lt (n : Nat) (h : fol n < 8) : n < 2 ^ (7 * fol n + 7) := by
  rw [fol_eq] at h ⊢
  repeat' split
  all_goals first | assumption | (simp_all) | omega
theorem fol_ge (n : Nat) (h : 0 < fol n) : 2 ^ (7 * fol n) ≤ n := by
  rw [fol_eq] at h ⊢
  repeat' split
  all_goals first | (simp_all; done) | (simp_all; omega) | omega
theorem fol_of (n k : Nat) (hk : k ≤ 8) (h1 : k < 8 → n < 2 ^ (7 * k + 7)) (h2 : 0 < k → 2 ^ (7 * k) ≤ n) : fol n = k := by
  have : k = 0 ∨ k = 1 ∨ k = 2 ∨ k = 3 ∨ k = 4 ∨ k = 5 ∨ k = 6 ∨ k = 7 ∨ k = 8 := by omega
  rw [fol_eq]
  rcases this with rfl | rfl | rfl | rfl | rfl | rfl | rfl | rfl | rfl <;> simp at h1 h2 <;> (repeat' split) <;> omega
theorem fol_mono (a b : Nat) (h : a ≤ b) : fol a ≤ fol b := by
  rcases Nat.lt_or_ge (fol b) (fol a) with hlt | hge
  · have h8 := fol_le a
    have h1 := fol_lt b (by omega)
    have h2 := fol_ge a (by omega)
    have h3 : 2 ^ (7 * fol b + 7) ≤ 2 ^ (7 * fol a) := Nat.pow_le_pow_right (by decide) (by omega)
    omega
  · exact hge

/-- The first k bits of a byte set. -/
def lead (k : Nat) : Nat := 256 - 2 ^ (8 - k)
/-- How many 1 bits a byte starts with. -/
def onesF (x : Nat) : Nat → Nat → Nat
  | 0, j => j
  | f + 1, j => if x * 2 ^ j % 256 < 128 then j else onesF x f (j + 1)
def ones (x : Nat) : Nat := onesF x 8 0
theorem ones_le (x : Nat) (h : x < 256) : ones x ≤ 8 := by
  have : ∀ x, x < 256 → ones x ≤ 8 := by decide +kernel
  exact this x h
theorem onesF_yes (n f j : Nat) (h : n * 2 ^ j % 256 < 128) (hf : 0 < f) : onesF n f j = j := by
  cases f with
  | zero => omega
  | succ f => simp [onesF, h]
theorem onesF_no (n f j : Nat) (h : ¬ n * 2 ^ j % 256 < 128) : onesF n (f + 1) j = onesF n f (j + 1) := by simp [onesF, h]
theorem ones_lead (k y : Nat) (hk : k ≤ 8) (hy : y < 2 ^ (7 - k)) : ones (lead k + y) = k := by
  have : ∀ k, k < 9 → ∀ y, y < 2 ^ (7 - k) → ones (lead k + y) = k := by decide +kernel
  exact this k (by omega) y hy
theorem lead_ones (x : Nat) (h : x < 256) : lead (ones x) ≤ x ∧ x - lead (ones x) < 2 ^ (7 - ones x) := by
  have : ∀ x, x < 256 → lead (ones x) ≤ x ∧ x - lead (ones x) < 2 ^ (7 - ones x) := by decide +kernel
  exact this x h
theorem lead_lt (k : Nat) : lead k < 256 := by
  unfold lead
  have := Nat.two_pow_pos (8 - k)
  omega
theorem lead_add_lt (k y : Nat) (hk : k ≤ 8) (hy : y < 2 ^ (7 - k)) : lead k + y < 256 := by
  have : ∀ k, k < 9 → ∀ y, y < 2 ^ (7 - k) → lead k + y < 256 := by decide +kernel
  exact this k (by omega) y hy
theorem lead_or (k y : Nat) (hk : k ≤ 8) (hy : y < 2 ^ (7 - k)) : lead k ||| y = lead k + y := by
  have : ∀ k, k < 9 → ∀ y, y < 2 ^ (7 - k) → lead k ||| y = lead k + y := by decide +kernel
  exact this k (by omega) y hy
theorem lead_step (j k y : Nat) (hj : j < k) (hk : k ≤ 8) (hy : y < 2 ^ (7 - j)) : lead j + y < lead k := by
  have : ∀ k, k < 9 → ∀ j, j < k → ∀ y, y < 2 ^ (7 - j) → lead j + y < lead k := by decide +kernel
  exact this k (by omega) j hj y hy

/-- k bytes, the most significant first. -/
def be (n : Nat) : Nat → List Nat
  | 0 => []
  | k + 1 => (n / 256 ^ k % 256) :: be n k
theorem be_length (n k : Nat) : (be n k).length = k := by induction k with
  | zero => rfl
  | succ k ih => simp [be, ih]
theorem be_lt (n k : Nat) : ∀ x ∈ be n k, x < 256 := by
  induction k with
  | zero => simp [be]
  | succ k ih =>
    intro x hx
    rcases List.mem_cons.1 hx with rfl | h
    · exact Nat.mod_lt _ (by decide)
    · exact ih x h
theorem be_getElem (n k j : Nat) (h : j < k) : (be n k)[j]?.getD 0 = n / 256 ^ (k - 1 - j) % 256 := by
  induction k generalizing j with
  | zero => omega
  | succ k ih =>
    cases j with
    | zero => simp [be]
    | succ j => simp only [be, List.getElem?_cons_succ]; rw [ih j (by omega)]; congr 3; omega
/-- Bytes read as a number behind v. -/
def unb (v : Nat) (l : List Nat) : Nat := l.foldl (fun a x => a * 256 + x) v
theorem unb_snoc (v : Nat) (l : List Nat) (x : Nat) : unb v (l ++ [x]) = unb v l * 256 + x := by simp [unb]
theorem unb_val (l : List Nat) : ∀ v, unb v l = v * 256 ^ l.length + unb 0 l := by
  induction l with
  | nil => intro v; simp [unb]
  | cons x t ih =>
    intro v
    have h1 : unb v (x :: t) = unb (v * 256 + x) t := rfl
    have h2 : unb 0 (x :: t) = unb (0 * 256 + x) t := rfl
    rw [h1, h2, ih (v * 256 + x), ih (0 * 256 + x), List.length_cons, Nat.pow_succ]
    rw [Nat.add_mul, Nat.zero_mul, Nat.zero_add, Nat.mul_assoc, Nat.mul_comm 256 (256 ^ t.length), Nat.add_assoc]
theorem unb_lt (l : List Nat) (h : ∀ x ∈ l, x < 256) : unb 0 l < 256 ^ l.length := by
  induction l with
  | nil => simp [unb]
  | cons x t ih =>
    have h2 : unb 0 (x :: t) = unb (0 * 256 + x) t := rfl
    rw [h2, unb_val, List.length_cons, Nat.pow_succ, Nat.zero_mul, Nat.zero_add]
    have := ih fun y hy => h y (List.mem_cons_of_mem _ hy)
    have hx : x + 1 ≤ 256 := h x List.mem_cons_self
    have := Nat.mul_le_mul_right (256 ^ t.length) hx
    rw [Nat.add_mul] at this
    rw [Nat.mul_comm (256 ^ t.length) 256]
    omega
theorem unb_lt' (l : List Nat) (v c : Nat) (h : ∀ x ∈ l, x < 256) (hv : v < c) : unb v l < c * 256 ^ l.length := by
  rw [unb_val]
  have := unb_lt l h
  have h2 := Nat.mul_le_mul_right (256 ^ l.length) (show v + 1 ≤ c from hv)
  rw [Nat.add_mul] at h2
  omega
theorem be_mod (n m k : Nat) (h : n % 256 ^ k = m % 256 ^ k) : be n k = be m k := by
  induction k with
  | zero => rfl
  | succ k ih =>
    have e : ∀ n : Nat, n / 256 ^ k % 256 = n % 256 ^ (k + 1) / 256 ^ k := fun n => by
      rw [Nat.pow_succ, Nat.mod_mul_right_div_self]
    have e2 : ∀ n : Nat, n % 256 ^ k = n % 256 ^ (k + 1) % 256 ^ k := fun n => by
      rw [Nat.mod_mod_of_dvd _ (Nat.pow_dvd_pow _ (Nat.le_succ k))]
    unfold be
    rw [e n, e m, h, ih (by rw [e2 n, e2 m, h])]
theorem unb_be (n k v : Nat) : unb v (be n k) = v * 256 ^ k + n % 256 ^ k := by
  induction k generalizing v with
  | zero => simp [be, unb]; omega
  | succ k ih =>
    have h1 : unb v (be n (k + 1)) = unb (v * 256 + n / 256 ^ k % 256) (be n k) := rfl
    rw [h1, ih, Nat.add_mul, Nat.pow_succ, Nat.mul_comm (256 ^ k) 256, ← Nat.mul_assoc]
    have h2 : n % (256 * 256 ^ k) = 256 ^ k * (n / 256 ^ k % 256) + n % 256 ^ k := by
      rw [Nat.mul_comm 256, Nat.mod_mul, Nat.add_comm]
    rw [h2, Nat.mul_comm (n / 256 ^ k % 256)]
    omega
theorem be_unb (l : List Nat) (h : ∀ x ∈ l, x < 256) (v : Nat) : be (unb v l) l.length = l := by
  induction l generalizing v with
  | nil => rfl
  | cons x t ih =>
    have ht := fun y hy => h y (List.mem_cons_of_mem x hy)
    have hx : x < 256 := h x List.mem_cons_self
    have h1 : unb v (x :: t) = unb (v * 256 + x) t := rfl
    have hp : 0 < 256 ^ t.length := Nat.pow_pos (by decide)
    rw [List.length_cons, be, h1, ih ht]
    congr 1
    rw [unb_val, Nat.add_comm, Nat.add_mul_div_right _ _ hp, Nat.div_eq_of_lt (unb_lt t ht)]
    omega

/-- The encoding of a number. -/
def code (n : Nat) : List Nat := (lead (fol n) + n / 256 ^ fol n) :: be n (fol n)
theorem code_length (n : Nat) : (code n).length = fol n + 1 := by simp [code, be_length]
theorem code_len (n : Nat) : 1 ≤ (code n).length ∧ (code n).length ≤ 9 := by rw [code_length]; have := fol_le n; omega
theorem p256 (k : Nat) : 256 ^ k = 2 ^ (8 * k) := by rw [show (256 : Nat) = 2 ^ 8 from rfl, ← Nat.pow_mul]
theorem top_lt (n : Nat) (hn : n < 18446744073709551616) : n / 256 ^ fol n < 2 ^ (7 - fol n) := by
  rw [Nat.div_lt_iff_lt_mul (Nat.pow_pos (by decide)), p256, ← Nat.pow_add]
  have h8 := fol_le n
  by_cases h : fol n < 8
  · have := fol_lt n h
    rwa [show 7 - fol n + 8 * fol n = 7 * fol n + 7 by omega]
  · have : fol n = 8 := by omega
    rw [this]; exact hn
theorem code_lt (n : Nat) (hn : n < 18446744073709551616) : ∀ x ∈ code n, x < 256 := by
  intro x hx
  rcases List.mem_cons.1 hx with rfl | h
  · exact lead_add_lt _ _ (fol_le n) (top_lt n hn)
  · exact be_lt n _ x h

/-- The number at the head of bytes, and how many bytes it takes. -/
def parse : List Nat → Option (Nat × Nat)
  | [] => none
  | x :: t => if t.length < ones x then none else if fol (unb (x - lead (ones x)) (t.take (ones x))) = ones x then some (unb (x - lead (ones x)) (t.take (ones x)), ones x + 1) else none
theorem parse_code (n : Nat) (hn : n < 18446744073709551616) (t : List Nat) : parse (code n ++ t) = some (n, (code n).length) := by
  have h1 := ones_lead (fol n) (n / 256 ^ fol n) (fol_le n) (top_lt n hn)
  have hl := be_length n (fol n)
  have e : code n ++ t = (lead (fol n) + n / 256 ^ fol n) :: (be n (fol n) ++ t) := rfl
  rw [e, parse, h1, List.length_append, hl, if_neg (by omega), List.take_append_of_le_length (by omega), List.take_of_length_le (by omega)]
  rw [Nat.add_sub_cancel_left, unb_be]
  have e2 : n / 256 ^ fol n * 256 ^ fol n + n % 256 ^ fol n = n := by rw [Nat.mul_comm]; exact Nat.div_add_mod n (256 ^ fol n)
  rw [e2, if_pos rfl, code_length]
theorem parse_one (l : List Nat) (hl : ∀ x ∈ l, x < 256) (n c : Nat) (h : parse l = some (n, c)) : n < 18446744073709551616 ∧ c = (code n).length ∧ c ≤ l.length ∧ l.take c = code n := by
  cases l with
  | nil => cases h
  | cons x t =>
    have hx : x < 256 := hl x List.mem_cons_self
    have ht : ∀ y ∈ t, y < 256 := fun y hy => hl y (List.mem_cons_of_mem _ hy)
    have h8 := ones_le x hx
    obtain ⟨h1, h2⟩ := lead_ones x hx
    rw [parse] at h
    split at h
    · cases h
    · rename_i hlen
      split at h
      · rename_i hf
        injection h with h
        injection h with ha hb
        have hk : (t.take (ones x)).length = ones x := by rw [List.length_take]; omega
        have htk : ∀ y ∈ t.take (ones x), y < 256 := fun y hy => ht y (List.mem_of_mem_take hy)
        have hlt := unb_lt' (t.take (ones x)) (x - lead (ones x)) (2 ^ (7 - ones x)) htk h2
        rw [hk, p256, ← Nat.pow_add] at hlt
        have hn : n < 18446744073709551616 := by
          rw [← ha]
          refine Nat.lt_of_lt_of_le hlt ?_
          exact Nat.pow_le_pow_right (n := 2) (by decide) (show 7 - ones x + 8 * ones x ≤ 64 by omega)
        have hbe := be_unb (t.take (ones x)) htk (x - lead (ones x))
        rw [hk, ha] at hbe
        rw [ha] at hf
        have htop : n / 256 ^ ones x = x - lead (ones x) := by
          rw [← ha, unb_val, hk, Nat.add_comm, Nat.add_mul_div_right _ _ (Nat.pow_pos (by decide)), Nat.div_eq_of_lt (by have := unb_lt _ htk; rwa [hk] at this), Nat.zero_add]
        refine ⟨hn, ?_, ?_, ?_⟩
        · rw [code_length, hf, hb]
        · rw [← hb, List.length_cons]; omega
        · rw [← hb, List.take_succ_cons, code, hf, hbe, htop]
          congr 1
          omega
      · cases h
theorem parse_take (l : List Nat) (m : Nat) (hl : ∀ x ∈ l, x < 256) (hm : 9 ≤ m) : parse (l.take m) = parse l := by
  cases l with
  | nil => simp
  | cons x t =>
    have h8 := ones_le x (hl x List.mem_cons_self)
    obtain ⟨m', rfl⟩ : ∃ m', m = m' + 1 := ⟨m - 1, by omega⟩
    rw [List.take_succ_cons, parse, parse, List.length_take, List.take_take, Nat.min_eq_left (show ones x ≤ m' by omega)]
    by_cases h : t.length < ones x
    · rw [if_pos h, if_pos (Nat.lt_of_le_of_lt (Nat.min_le_right _ _) h)]
    · rw [if_neg h, if_neg (Nat.not_lt.2 (Nat.le_min.2 ⟨by omega, by omega⟩))]

/-- One bit of the checksum. -/
def step (c : Nat) : Nat := c / 2 ^^^ (if c % 2 = 1 then 3988292384 else 0)
def T : List Nat := [0, 498536548, 997073096, 651767980, 1994146192, 1802195444, 1303535960, 1342533948, 3988292384, 4027552580, 3604390888, 3412177804, 2607071920, 2262029012, 2685067896, 3183342108]
def half (c : Nat) : Nat := c / 16 ^^^ T[c % 16]?.getD 0
theorem step_xor (a b : Nat) : step (a ^^^ b) = step a ^^^ step b := by
  unfold step
  have h1 : (a ^^^ b) / 2 = a / 2 ^^^ b / 2 := by
    have := Nat.shiftRight_xor_distrib (a := a) (b := b) (i := 1)
    simpa [Nat.shiftRight_eq_div_pow] using this
  have h2 : (a ^^^ b) % 2 = (a % 2 + b % 2) % 2 := by
    have := Nat.testBit_xor a b 0
    simp only [Nat.testBit_zero] at this
    rcases Nat.mod_two_eq_zero_or_one (a ^^^ b) with h | h <;> rcases Nat.mod_two_eq_zero_or_one a with ha | ha <;> rcases Nat.mod_two_eq_zero_or_one b with hb | hb <;> simp [h, ha, hb] at this ⊢
  rw [h1, h2]
  have x1 : ∀ p q r s : Nat, (p ^^^ r) ^^^ (q ^^^ s) = (p ^^^ q) ^^^ (r ^^^ s) := fun p q r s => by
    rw [Nat.xor_assoc, ← Nat.xor_assoc r q s, Nat.xor_comm r q, Nat.xor_assoc q r s, ← Nat.xor_assoc]
  rw [x1]
  congr 1
  rcases Nat.mod_two_eq_zero_or_one a with ha | ha <;> rcases Nat.mod_two_eq_zero_or_one b with hb | hb <;> simp [ha, hb]
theorem split16 (c : Nat) : c = (16 * (c / 16)) ^^^ (c % 16) := by
  have e : c = 2 ^ 4 * (c / 16) + c % 16 := (Nat.div_add_mod c 16).symm
  have hr : c % 16 < 2 ^ 4 := Nat.mod_lt _ (by decide)
  generalize c / 16 = q at *
  generalize c % 16 = r at *
  subst e
  apply Nat.eq_of_testBit_eq
  intro i
  rw [Nat.testBit_xor, Nat.testBit_two_pow_mul_add q hr, show 16 * q = 2 ^ 4 * q from rfl, Nat.testBit_two_pow_mul]
  by_cases h : i < 4
  · simp [h, show ¬ 4 ≤ i by omega]
  · have : r.testBit i = false := Nat.testBit_lt_two_pow (Nat.lt_of_lt_of_le hr (Nat.pow_le_pow_right (by decide) (by omega)))
    simp [h, show 4 ≤ i by omega, this]
theorem half_eq (c : Nat) : half c = step (step (step (step c))) := by
  have h0 : ∀ q : Nat, step (2 * q) = q := fun q => by unfold step; rw [Nat.mul_mod_right, if_neg (by decide), Nat.mul_div_cancel_left q (by decide), Nat.xor_zero]
  have h1 : ∀ r, r < 16 → step (step (step (step r))) = T[r]?.getD 0 := by decide
  conv => rhs; rw [split16 c]
  rw [step_xor, step_xor, step_xor, step_xor, h1 _ (Nat.mod_lt _ (by decide))]
  rw [show 16 * (c / 16) = 2 * (2 * (2 * (2 * (c / 16)))) by omega, h0, h0, h0, h0]
  rfl
theorem T_lt (r : Nat) : T[r]?.getD 0 < 4294967296 := by
  rcases Nat.lt_or_ge r 16 with h | h
  · have : ∀ r, r < 16 → T[r]?.getD 0 < 4294967296 := by decide
    exact this r h
  · rw [List.getElem?_eq_none (by simpa [T] using h)]; decide
theorem step_lt (c : Nat) (h : c < 4294967296) : step c < 4294967296 := by
  unfold step
  refine Nat.xor_lt_two_pow (n := 32) (by omega) ?_
  split <;> decide
theorem half_lt (c : Nat) (h : c < 4294967296) : half c < 4294967296 :=
  Nat.xor_lt_two_pow (n := 32) (by omega) (T_lt _)
/-- The checksum behind one more byte. -/
def crcB (c x : Nat) : Nat := half (half (c ^^^ x))
def crcL (l : List Nat) : Nat := l.foldl crcB 4294967295
def crc (l : List Nat) : Nat := crcL l ^^^ 4294967295
theorem crcB_lt (c x : Nat) (h : c < 4294967296) (hx : x < 256) : crcB c x < 4294967296 :=
  half_lt _ (half_lt _ (Nat.xor_lt_two_pow (n := 32) h (by omega)))
theorem crcL_lt (l : List Nat) (h : ∀ x ∈ l, x < 256) : crcL l < 4294967296 := by
  have : ∀ (l : List Nat) (c : Nat), (∀ x ∈ l, x < 256) → c < 4294967296 → l.foldl crcB c < 4294967296 := by
    intro l
    induction l with
    | nil => intro c _ h; exact h
    | cons x t ih => intro c hl hc; exact ih _ (fun y hy => hl y (List.mem_cons_of_mem _ hy)) (crcB_lt c x hc (hl x List.mem_cons_self))
  exact this l _ h (by decide)
theorem crc_lt (l : List Nat) (h : ∀ x ∈ l, x < 256) : crc l < 4294967296 := Nat.xor_lt_two_pow (n := 32) (crcL_lt l h) (by decide)
theorem crcL_snoc (l : List Nat) (x : Nat) : crcL (l ++ [x]) = crcB (crcL l) x := by simp [crcL]
theorem crcL_take (l : List Nat) (i : Nat) (h : i < l.length) : crcL (l.take (i + 1)) = crcB (crcL (l.take i)) (l[i]?.getD 0) := by
  rw [List.take_succ_eq_append_getElem h, crcL_snoc, List.getElem?_eq_getElem h]; rfl
/-- Four bytes, the least significant first. -/
def le4 (s : Nat) : List Nat := [s % 256, s / 256 % 256, s / 65536 % 256, s / 16777216 % 256]
theorem le4_lt (s : Nat) : ∀ x ∈ le4 s, x < 256 := by
  intro x hx
  simp only [le4, List.mem_cons, List.not_mem_nil, or_false] at hx
  omega
/-- A sealed record: what the checksum is of, and the whole. -/
def head (k : Nat) (b : List Nat) : List Nat := k :: (code b.length ++ b)
def sealed (k : Nat) (b : List Nat) : List Nat := head k b ++ le4 (crc (head k b))
theorem head_length (k : Nat) (b : List Nat) : (head k b).length = 1 + (code b.length).length + b.length := by simp [head]; omega
theorem sealed_length (k : Nat) (b : List Nat) : (sealed k b).length = 1 + (code b.length).length + b.length + 4 := by simp [sealed, head_length, le4]
theorem head_lt (k : Nat) (b : List Nat) (hk : k < 256) (hb : ∀ x ∈ b, x < 256) (hl : b.length < 18446744073709551616) : ∀ x ∈ head k b, x < 256 := by
  intro x hx
  rcases List.mem_cons.1 hx with rfl | h
  · exact hk
  · rcases List.mem_append.1 h with h | h
    · exact code_lt _ hl x h
    · exact hb x h
theorem sealed_lt (k : Nat) (b : List Nat) (hk : k < 256) (hb : ∀ x ∈ b, x < 256) (hl : b.length < 18446744073709551616) : ∀ x ∈ sealed k b, x < 256 := by
  intro x hx
  rcases List.mem_append.1 hx with h | h
  · exact head_lt k b hk hb hl x h
  · exact le4_lt _ x h
end M
end Go.Proofs.Ytadcmljcbmfcaaa.Wi
