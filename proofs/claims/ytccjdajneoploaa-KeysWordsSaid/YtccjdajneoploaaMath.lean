/-
  Plain facts: keys, their bytes, what bytes are read as, how two stand. No program here.
-/
import Derived.Below
namespace Go.Proofs.Ytccjdajneoploaa

/-- Bytes as a string, a string's bytes. -/
def strB (l : List Nat) : ByteArray := ⟨(l.map fun x : Nat => UInt8.ofNat x).toArray⟩
def byt (s : ByteArray) : List Nat := s.data.toList.map UInt8.toNat
theorem byt_lt (s : ByteArray) : ∀ x ∈ byt s, x < 256 := by
  intro x hx
  obtain ⟨u, _, rfl⟩ := List.mem_map.1 hx
  exact u.toNat_lt
theorem byt_length (s : ByteArray) : (byt s).length = s.size := by simp [byt]
theorem strB_size (l : List Nat) : (strB l).size = l.length := by simp [strB, ByteArray.size]
theorem byt_strB (l : List Nat) (h : ∀ x ∈ l, x < 256) : byt (strB l) = l := by
  unfold byt strB
  simp only [List.map_map]
  conv => rhs; rw [← List.map_id l]
  refine List.map_congr_left fun x hx => ?_
  have := h x hx
  simp [UInt8.toNat_ofNat', Nat.mod_eq_of_lt this]
theorem strB_byt (s : ByteArray) : strB (byt s) = s := by
  unfold byt strB
  cases s with
  | mk d =>
    simp only [List.map_map]
    congr 1
    apply Array.ext'
    simp only
    conv => rhs; rw [← List.map_id d.toList]
    refine List.map_congr_left fun x _ => ?_
    simp
theorem byt_inj {s t : ByteArray} (h : byt s = byt t) : s = t := by rw [← strB_byt s, ← strB_byt t, h]

/-- A part. -/
structure Part where
  t : Bool
  n : Nat
  s : ByteArray

namespace M
def be (n : Nat) : Nat → List Nat
  | 0 => []
  | k + 1 => (n / 256 ^ k % 256) :: be n k
theorem be_length (n k : Nat) : (be n k).length = k := by induction k with
  | zero => rfl
  | succ k ih => simp [be, ih]
theorem be_lt (n k : Nat) : ∀ x ∈ be n k, x < 256 := by
  induction k with
  | zero => simp [be]
  | succ k ih =>
    intro x hx
    rcases List.mem_cons.1 hx with rfl | h
    · exact Nat.mod_lt _ (by decide)
    · exact ih x h
theorem be_getElem (n k j : Nat) (h : j < k) : (be n k)[j]?.getD 0 = n / 256 ^ (k - 1 - j) % 256 := by
  induction k generalizing j with
  | zero => omega
  | succ k ih =>
    cases j with
    | zero => simp [be]
    | succ j => simp only [be, List.getElem?_cons_succ]; rw [ih j (by omega)]; congr 3; omega
/-- Bytes read as a number behind v. -/
def unb (v : Nat) (l : List Nat) : Nat := l.foldl (fun a x => a * 256 + x) v
theorem unb_snoc (v : Nat) (l : List Nat) (x : Nat) : unb v (l ++ [x]) = unb v l * 256 + x := by simp [unb]
theorem unb_val (l : List Nat) : ∀ v, unb v l = v * 256 ^ l.length + unb 0 l := by
  induction l with
  | nil => intro v; simp [unb]
  | cons x t ih =>
    intro v
    have h1 : unb v (x :: t) = unb (v * 256 + x) t := rfl
    have h2 : unb 0 (x :: t) = unb (0 * 256 + x) t := rfl
    rw [h1, h2, ih (v * 256 + x), ih (0 * 256 + x), List.length_cons, Nat.pow_succ]
    rw [Nat.add_mul, Nat.zero_mul, Nat.zero_add, Nat.mul_assoc, Nat.mul_comm 256 (256 ^ t.length), Nat.add_assoc]
theorem unb_lt (l : List Nat) (h : ∀ x ∈ l, x < 256) : unb 0 l < 256 ^ l.length := by
  induction l with
  | nil => simp [unb]
  | cons x t ih =>
    have h2 : unb 0 (x :: t) = unb (0 * 256 + x) t := rfl
    rw [h2, unb_val, List.length_cons, Nat.pow_succ, Nat.zero_mul, Nat.zero_add]
    have := ih fun y hy => h y (List.mem_cons_of_mem _ hy)
    have hx : x + 1 ≤ 256 := h x List.mem_cons_self
    have := Nat.mul_le_mul_right (256 ^ t.length) hx
    rw [Nat.add_mul] at this
    rw [Nat.mul_comm (256 ^ t.length) 256]
    omega
theorem unb_lt' (l : List Nat) (v c : Nat) (h : ∀ x ∈ l, x < 256) (hv : v < c) : unb v l < c * 256 ^ l.length := by
  rw [unb_val]
  have := unb_lt l h
  have h2 := Nat.mul_le_mul_right (256 ^ l.length) (show v + 1 ≤ c from hv)
  rw [Nat.add_mul] at h2
  omega
theorem be_mod (n m k : Nat) (h : n % 256 ^ k = m % 256 ^ k) : be n k = be m k := by
  induction k with
  | zero => rfl
  | succ k ih =>
    have e : ∀ n : Nat, n / 256 ^ k % 256 = n % 256 ^ (k + 1) / 256 ^ k := fun n => by
      rw [Nat.pow_succ, Nat.mod_mul_right_div_self]
    have e2 : ∀ n : Nat, n % 256 ^ k = n % 256 ^ (k + 1) % 256 ^ k := fun n => by
      rw [Nat.mod_mod_of_dvd _ (Nat.pow_dvd_pow _ (Nat.le_succ k))]
    unfold be
    rw [e n, e m, h, ih (by rw [e2 n, e2 m, h])]
theorem unb_be (n k v : Nat) : unb v (be n k) = v * 256 ^ k + n % 256 ^ k := by
  induction k generalizing v with
  | zero => simp [be, unb]; omega
  | succ k ih =>
    have h1 : unb v (be n (k + 1)) = unb (v * 256 + n / 256 ^ k % 256) (be n k) := rfl
    rw [h1, ih, Nat.add_mul, Nat.pow_succ, Nat.mul_comm (256 ^ k) 256, ← Nat.mul_assoc]
    have h2 : n % (256 * 256 ^ k) = 256 ^ k * (n / 256 ^ k % 256) + n % 256 ^ k := by
      rw [Nat.mul_comm 256, Nat.mod_mul, Nat.add_comm]
    rw [h2, Nat.mul_comm (n / 256 ^ k % 256)]
    omega
theorem be_unb (l : List Nat) (h : ∀ x ∈ l, x < 256) (v : Nat) : be (unb v l) l.length = l := by
  induction l generalizing v with
  | nil => rfl
  | cons x t ih =>
    have ht := fun y hy => h y (List.mem_cons_of_mem x hy)
    have hx : x < 256 := h x List.mem_cons_self
    have h1 : unb v (x :: t) = unb (v * 256 + x) t := rfl
    have hp : 0 < 256 ^ t.length := Nat.pow_pos (by decide)
    rw [List.length_cons, be, h1, ih ht]
    congr 1
    rw [unb_val, Nat.add_comm, Nat.add_mul_div_right _ _ hp, Nat.div_eq_of_lt (unb_lt t ht)]
    omega

theorem p256 (k : Nat) : 256 ^ k = 2 ^ (8 * k) := by rw [show (256 : Nat) = 2 ^ 8 from rfl, ← Nat.pow_mul]
/-- A text's bytes within its encoding, ahead of its end. -/
def bod (l : List Nat) : List Nat := l.flatMap fun x => if x = 0 then [0, 255] else [x]
theorem bod_nil : bod [] = [] := rfl
theorem bod_zero (l : List Nat) : bod (0 :: l) = 0 :: 255 :: bod l := by simp [bod]
theorem bod_pos (x : Nat) (l : List Nat) (h : x ≠ 0) : bod (x :: l) = x :: bod l := by simp [bod, h]
theorem bod_snoc (l : List Nat) (x : Nat) : bod (l ++ [x]) = bod l ++ (if x = 0 then [0, 255] else [x]) := by simp [bod]
theorem bod_lt (l : List Nat) (h : ∀ x ∈ l, x < 256) : ∀ x ∈ bod l, x < 256 := by
  induction l with
  | nil => simp [bod]
  | cons y t ih =>
    have ih := ih fun x hx => h x (List.mem_cons_of_mem _ hx)
    have hy := h y List.mem_cons_self
    by_cases h0 : y = 0
    · subst h0; rw [bod_zero]; intro x hx
      simp only [List.mem_cons] at hx
      rcases hx with rfl | rfl | hx
      · omega
      · omega
      · exact ih x hx
    · rw [bod_pos y t h0]; intro x hx
      simp only [List.mem_cons] at hx
      rcases hx with rfl | hx
      · exact hy
      · exact ih x hx
theorem bod_len (l : List Nat) : (bod l).length ≤ 2 * l.length := by
  induction l with
  | nil => simp [bod]
  | cons y t ih =>
    by_cases h0 : y = 0
    · subst h0; rw [bod_zero]; simp; omega
    · rw [bod_pos y t h0]; simp; omega
/-- A part's encoding; a key's. -/
def enc1 (p : Part) : List Nat := if p.t then 2 :: (bod (byt p.s) ++ [0, 1]) else 1 :: be p.n 8
def enc (l : List Part) : List Nat := l.flatMap enc1
theorem enc_cons (p : Part) (l : List Part) : enc (p :: l) = enc1 p ++ enc l := by simp [enc]
theorem enc_append (l r : List Part) : enc (l ++ r) = enc l ++ enc r := by simp [enc]
theorem enc1_text (p : Part) (h : p.t = true) : enc1 p = 2 :: (bod (byt p.s) ++ [0, 1]) := by simp [enc1, h]
theorem enc1_num (p : Part) (h : p.t = false) : enc1 p = 1 :: be p.n 8 := by simp [enc1, h]
theorem enc1_lt (p : Part) : ∀ x ∈ enc1 p, x < 256 := by
  intro x hx
  cases h : p.t with
  | true =>
    rw [enc1_text p h] at hx
    simp only [List.mem_cons, List.mem_append, List.not_mem_nil, or_false] at hx
    rcases hx with rfl | hx | rfl | rfl
    · decide
    · exact bod_lt _ (byt_lt _) x hx
    · decide
    · decide
  | false =>
    rw [enc1_num p h] at hx
    rcases List.mem_cons.1 hx with rfl | hx
    · decide
    · exact be_lt _ _ x hx
theorem enc_lt (l : List Part) : ∀ x ∈ enc l, x < 256 := by
  intro x hx
  obtain ⟨p, _, h⟩ := List.mem_flatMap.1 hx
  exact enc1_lt p x h
/-- Is a part right; is it a key's part but for its length; is a list a key? -/
def rightP (p : Part) : Bool := if p.t then decide (p.n = 0) && decide (p.s.size ≤ 512) else decide (p.s.size = 0)
def right (l : List Part) : Bool := l.all rightP && (decide (0 < l.length) && decide (l.length ≤ 8))
def okP (p : Part) : Prop := p.n < 18446744073709551616 ∧ (p.t = true → p.n = 0) ∧ (p.t = false → p.s = strB [])
theorem size_zero {s : ByteArray} (h : s.size = 0) : s = strB [] := by
  refine byt_inj ?_
  rw [byt_strB [] (by simp)]
  exact List.eq_nil_of_length_eq_zero (by rw [byt_length, h])
theorem okP_of {p : Part} (h : rightP p = true) (hn : p.n < 18446744073709551616) : okP p := by
  refine ⟨hn, fun ht => ?_, fun ht => ?_⟩
  · simp [rightP, ht] at h; exact h.1
  · simp only [rightP, ht] at h; exact size_zero (by simpa using h)
theorem enc1_len (p : Part) (h : rightP p = true) : (enc1 p).length ≤ 1027 := by
  cases ht : p.t with
  | true =>
    rw [enc1_text p ht]
    simp [rightP, ht] at h
    have := bod_len (byt p.s)
    rw [byt_length] at this
    simp; omega
  | false => rw [enc1_num p ht]; simp [be_length]
theorem enc_len (l : List Part) (h : l.all rightP = true) : (enc l).length ≤ 1027 * l.length := by
  induction l with
  | nil => simp [enc]
  | cons p t ih =>
    simp only [List.all_cons, Bool.and_eq_true] at h
    have := enc1_len p h.1
    have := ih h.2
    rw [enc_cons]; simp; omega

/-- The text that begins some bytes, and how many bytes its encoding has behind the mark. -/
def unt : List Nat → Option (List Nat × Nat)
  | [] => none
  | [_] => none
  | x :: y :: r => if x = 0 then (if y = 1 then some ([], 2) else if y = 255 then (unt r).map fun q => (0 :: q.1, q.2 + 2) else none) else (unt (y :: r)).map fun q => (x :: q.1, q.2 + 1)
theorem unt_end (r : List Nat) : unt (0 :: 1 :: r) = some ([], 2) := by simp [unt]
theorem unt_zero (r : List Nat) : unt (0 :: 255 :: r) = (unt r).map fun q => (0 :: q.1, q.2 + 2) := by simp [unt]
theorem unt_bad (y : Nat) (r : List Nat) (h1 : y ≠ 1) (h2 : y ≠ 255) : unt (0 :: y :: r) = none := by simp [unt, h1, h2]
theorem unt_pos (x : Nat) (r : List Nat) (h : x ≠ 0) : unt (x :: r) = (unt r).map fun q => (x :: q.1, q.2 + 1) := by
  cases r with
  | nil => simp [unt]
  | cons y r => simp [unt, h]
theorem unt_bod (x r : List Nat) : unt (bod x ++ 0 :: 1 :: r) = some (x, (bod x).length + 2) := by
  induction x with
  | nil => simp [bod, unt]
  | cons y t ih =>
    by_cases h0 : y = 0
    · subst h0; rw [bod_zero, List.cons_append, List.cons_append, unt_zero, ih]; simp
    · rw [bod_pos y t h0, List.cons_append, unt_pos y _ h0, ih]; simp
theorem unt_some : ∀ (s x : List Nat) (m : Nat), unt s = some (x, m) → ∃ r, s = bod x ++ 0 :: 1 :: r ∧ m = (bod x).length + 2
  | [], x, m, h => by simp [unt] at h
  | [_], x, m, h => by simp [unt] at h
  | a :: b :: r, x, m, h => by
    by_cases h0 : a = 0
    · subst h0
      by_cases h1 : b = 1
      · subst h1
        rw [unt_end] at h
        simp only [Option.some.injEq, Prod.mk.injEq] at h
        obtain ⟨rfl, rfl⟩ := h
        exact ⟨r, rfl, rfl⟩
      · by_cases h2 : b = 255
        · subst h2
          rw [unt_zero] at h
          obtain ⟨⟨x', m'⟩, hq, e⟩ := Option.map_eq_some_iff.1 h
          simp only [Prod.mk.injEq] at e
          obtain ⟨rfl, rfl⟩ := e
          obtain ⟨r', e1, e2⟩ := unt_some r x' m' hq
          exact ⟨r', by rw [bod_zero, e1]; rfl, by rw [bod_zero, e2]; simp⟩
        · rw [unt_bad b r h1 h2] at h; cases h
    · rw [unt_pos a _ h0] at h
      obtain ⟨⟨x', m'⟩, hq, e⟩ := Option.map_eq_some_iff.1 h
      simp only [Prod.mk.injEq] at e
      obtain ⟨rfl, rfl⟩ := e
      obtain ⟨r', e1, e2⟩ := unt_some (b :: r) x' m' hq
      exact ⟨r', by rw [bod_pos a _ h0, e1]; rfl, by rw [bod_pos a _ h0, e2]; simp⟩
/-- What is still to be read, behind what was. -/
def untA (acc : List Nat) (k : Nat) (s : List Nat) : Option (List Nat × Nat) := (unt s).map fun q => (acc ++ q.1, k + q.2)
theorem untA_start (s : List Nat) : untA [] 0 s = unt s := by unfold untA; cases unt s <;> simp
theorem untA_nil (acc : List Nat) (k : Nat) : untA acc k [] = none := rfl
theorem untA_one (acc : List Nat) (k x : Nat) : untA acc k [x] = none := rfl
theorem untA_end (acc : List Nat) (k : Nat) (r : List Nat) : untA acc k (0 :: 1 :: r) = some (acc, k + 2) := by simp [untA, unt_end]
theorem untA_zero (acc : List Nat) (k : Nat) (r : List Nat) : untA acc k (0 :: 255 :: r) = untA (acc ++ [0]) (k + 2) r := by
  simp only [untA, unt_zero, Option.map_map]; congr 1; funext q; simp; omega
theorem untA_bad (acc : List Nat) (k y : Nat) (r : List Nat) (h1 : y ≠ 1) (h2 : y ≠ 255) : untA acc k (0 :: y :: r) = none := by simp [untA, unt_bad y r h1 h2]
theorem untA_pos (acc : List Nat) (k x : Nat) (r : List Nat) (h : x ≠ 0) : untA acc k (x :: r) = untA (acc ++ [x]) (k + 1) r := by
  simp only [untA, unt_pos x r h, Option.map_map]; congr 1; funext q; simp; omega
theorem untA_len {acc : List Nat} {k : Nat} {s : List Nat} {q : List Nat × Nat} (h : untA acc k s = some q) : acc.length ≤ q.1.length := by
  obtain ⟨q', _, rfl⟩ := Option.map_eq_some_iff.1 h
  simp

/-- The part that begins some bytes, and how many bytes its encoding has. -/
def take1 : List Nat → Option (Part × Nat)
  | [] => none
  | x :: r => if x = 1 then (if 8 ≤ r.length then some (⟨false, unb 0 (r.take 8), strB []⟩, 9) else none) else if x = 2 then (unt r).map fun q => (⟨true, 0, strB q.1⟩, q.2 + 1) else none
theorem take1_enc (p : Part) (h : okP p) (r : List Nat) : take1 (enc1 p ++ r) = some (p, (enc1 p).length) := by
  obtain ⟨hn, h1, h2⟩ := h
  obtain ⟨t, n, s⟩ := p
  cases t with
  | true =>
    obtain rfl := h1 rfl
    rw [enc1_text _ rfl]
    simp only [List.cons_append, List.append_assoc, List.nil_append, take1]
    rw [unt_bod]
    simp [strB_byt]
  | false =>
    obtain rfl := h2 rfl
    rw [enc1_num _ rfl]
    simp only [List.cons_append, take1, if_true, List.length_append, be_length]
    rw [if_pos (by omega), List.take_append_of_le_length (by rw [be_length]; omega), List.take_of_length_le (by rw [be_length]; omega), unb_be, Nat.mod_eq_of_lt (by simpa using hn)]
    simp [be_length]
theorem take1_some (s : List Nat) (hs : ∀ x ∈ s, x < 256) (p : Part) (m : Nat) (h : take1 s = some (p, m)) : okP p ∧ ∃ r, s = enc1 p ++ r ∧ m = (enc1 p).length := by
  cases s with
  | nil => simp [take1] at h
  | cons x r =>
    have hr := fun y hy => hs y (List.mem_cons_of_mem x hy)
    by_cases h1 : x = 1
    · subst h1
      by_cases h8 : 8 ≤ r.length
      · simp only [take1, if_true, if_pos h8, Option.some.injEq, Prod.mk.injEq] at h
        obtain ⟨rfl, rfl⟩ := h
        have hl : (r.take 8).length = 8 := by simp; omega
        have hlt := unb_lt (r.take 8) (fun y hy => hr y (List.mem_of_mem_take hy))
        rw [hl] at hlt
        refine ⟨⟨by simpa using hlt, by simp, by simp⟩, r.drop 8, ?_, ?_⟩
        · rw [enc1_num _ rfl]
          have := be_unb (r.take 8) (fun y hy => hr y (List.mem_of_mem_take hy)) 0
          rw [hl] at this
          rw [this, List.cons_append, List.take_append_drop]
        · rw [enc1_num _ rfl]; simp [be_length]
      · simp [take1, h8] at h
    · by_cases h2 : x = 2
      · subst h2
        simp only [take1] at h
        rw [if_neg (by decide), if_pos trivial] at h
        obtain ⟨⟨t, m'⟩, hq, e⟩ := Option.map_eq_some_iff.1 h
        simp only [Prod.mk.injEq] at e
        obtain ⟨rfl, rfl⟩ := e
        obtain ⟨r', e1, e2⟩ := unt_some r t m' hq
        have ht : ∀ y ∈ t, y < 256 := by
          intro y hy
          by_cases h0 : y = 0
          · omega
          · refine hr y ?_
            rw [e1]
            refine List.mem_append.2 (.inl (List.mem_flatMap.2 ⟨y, hy, ?_⟩))
            simp [h0]
        refine ⟨⟨by show (0 : Nat) < _; decide, fun _ => rfl, by simp⟩, r', ?_, ?_⟩
        · rw [enc1_text _ rfl, byt_strB t ht, e1]; simp
        · rw [enc1_text _ rfl, byt_strB t ht, e2]; simp
      · simp [take1, h1, h2] at h
/-- The same, of right parts alone. -/
def take1B (s : List Nat) : Option (Part × Nat) := (take1 s).filter fun q => rightP q.1
/-- Some bytes as parts, at most k; and of right parts alone. -/
def parse : Nat → List Nat → Option (List Part)
  | _, [] => some []
  | 0, _ :: _ => none
  | k + 1, x :: r => (take1 (x :: r)).bind fun q => (parse k ((x :: r).drop q.2)).map (q.1 :: ·)
def parseB : Nat → List Nat → Option (List Part)
  | _, [] => some []
  | 0, _ :: _ => none
  | k + 1, x :: r => (take1B (x :: r)).bind fun q => (parseB k ((x :: r).drop q.2)).map (q.1 :: ·)
theorem parse_nil (k : Nat) : parse k [] = some [] := by cases k <;> rfl
theorem parseB_nil (k : Nat) : parseB k [] = some [] := by cases k <;> rfl
theorem parseB_eq (k : Nat) : ∀ s, parseB k s = (parse k s).filter fun l => l.all rightP := by
  induction k with
  | zero => intro s; cases s <;> simp [parseB, parse, Option.filter]
  | succ k ih =>
    intro s
    cases s with
    | nil => simp [parseB, parse, Option.filter]
    | cons x r =>
      simp only [parseB, parse, take1B]
      cases h : take1 (x :: r) with
      | none => simp [Option.filter]
      | some q =>
        by_cases hq : rightP q.1 = true
        · simp only [Option.filter, hq, if_true, Option.bind_some]
          rw [ih]
          cases parse k ((x :: r).drop q.2) with
          | none => simp [Option.filter]
          | some l => by_cases hl : l.all rightP = true <;> simp [Option.filter, hl, hq]
        · simp only [Option.filter, hq, Option.bind_some]
          cases parse k ((x :: r).drop q.2) with
          | none => simp
          | some l => simp [hq]
theorem parse_enc (k : Nat) : ∀ l : List Part, l.length ≤ k → (∀ p ∈ l, okP p) → parse k (enc l) = some l := by
  induction k with
  | zero => intro l hl _; obtain rfl : l = [] := List.eq_nil_of_length_eq_zero (by omega); simp [enc, parse]
  | succ k ih =>
    intro l hl hok
    cases l with
    | nil => simp [enc, parse]
    | cons p t =>
      have ht := take1_enc p (hok p List.mem_cons_self) (enc t)
      rw [enc_cons]
      have hne : ∃ x r, enc1 p ++ enc t = x :: r := by
        unfold enc1; split <;> exact ⟨_, _, rfl⟩
      obtain ⟨x, r, hx⟩ := hne
      rw [hx] at ht ⊢
      simp only [parse, ht, Option.bind_some]
      rw [← hx, List.drop_left, ih t (by simpa using hl) fun q hq => hok q (List.mem_cons_of_mem _ hq)]
      rfl
theorem parse_some (k : Nat) : ∀ (s : List Nat), (∀ x ∈ s, x < 256) → ∀ l, parse k s = some l → enc l = s ∧ l.length ≤ k ∧ ∀ p ∈ l, okP p := by
  induction k with
  | zero =>
    intro s _ l h
    cases s with
    | nil => simp [parse] at h; subst h; simp [enc]
    | cons x r => simp [parse] at h
  | succ k ih =>
    intro s hs l h
    cases s with
    | nil => simp [parse] at h; subst h; simp [enc]
    | cons x r =>
      simp only [parse] at h
      obtain ⟨⟨p, m⟩, h1, h2⟩ := Option.bind_eq_some_iff.1 h
      obtain ⟨t, h3, rfl⟩ := Option.map_eq_some_iff.1 h2
      obtain ⟨hok, r', e1, e2⟩ := take1_some _ hs p m h1
      simp only at h3
      rw [e1, e2, List.drop_left] at h3
      obtain ⟨g1, g2, g3⟩ := ih r' (fun y hy => hs y (by rw [e1]; exact List.mem_append.2 (.inr hy))) t h3
      refine ⟨by rw [enc_cons, g1, e1], by simpa using g2, fun q hq => ?_⟩
      rcases List.mem_cons.1 hq with rfl | hq
      · exact hok
      · exact g3 q hq
/-- The key that some bytes are. -/
def readV (s : List Nat) : Option (List Part) := (parse 8 s).filter right
theorem readV_enc (l : List Part) (h : right l = true) (hn : ∀ p ∈ l, p.n < 18446744073709551616) : readV (enc l) = some l := by
  have h' := h
  simp only [right, Bool.and_eq_true, decide_eq_true_eq, List.all_eq_true] at h'
  unfold readV
  rw [parse_enc 8 l h'.2.2 fun p hp => okP_of (h'.1 p hp) (hn p hp)]
  simp [Option.filter, h]
theorem readV_some (s : List Nat) (hs : ∀ x ∈ s, x < 256) (l : List Part) (h : readV s = some l) : enc l = s ∧ right l = true ∧ ∀ p ∈ l, okP p := by
  unfold readV at h
  obtain ⟨h1, h2⟩ := Option.filter_eq_some_iff.1 h
  obtain ⟨g1, _, g3⟩ := parse_some 8 s hs l h1
  exact ⟨g1, h2, g3⟩
theorem readV_B (s : List Nat) : readV s = (parseB 8 s).filter fun l => decide (0 < l.length) && decide (l.length ≤ 8) := by
  rw [parseB_eq]
  unfold readV right
  cases parse 8 s with
  | none => simp [Option.filter]
  | some l => by_cases hl : l.all rightP = true <;> simp [Option.filter, hl]

/-- How two lists of bytes stand. -/
def cmpN (m n : Nat) : Int := if m < n then -1 else if n < m then 1 else 0
def cmpB : List Nat → List Nat → Int
  | [], [] => 0
  | [], _ :: _ => -1
  | _ :: _, [] => 1
  | x :: s, y :: t => if x < y then -1 else if y < x then 1 else cmpB s t
def less : List Nat → List Nat → Bool
  | _, [] => false
  | [], _ :: _ => true
  | a :: x, b :: y => decide (a < b) || (decide (a = b) && less x y)
theorem less_cmp : ∀ s t, less s t = decide (cmpB s t < 0)
  | [], [] => by simp [less, cmpB]
  | [], _ :: _ => by simp [less, cmpB]
  | _ :: _, [] => by simp [less, cmpB]
  | x :: s, y :: t => by
    have ih := less_cmp s t
    simp only [less, cmpB, ih]
    by_cases h1 : x < y
    · simp [h1]
    · by_cases h2 : y < x
      · simp [h1, h2]; omega
      · have : x = y := by omega
        simp [this]
theorem cmpB_zero : ∀ s t, cmpB s t = 0 ↔ s = t
  | [], [] => by simp [cmpB]
  | [], _ :: _ => by simp [cmpB]
  | _ :: _, [] => by simp [cmpB]
  | x :: s, y :: t => by
    have ih := cmpB_zero s t
    simp only [cmpB]
    by_cases h1 : x < y
    · rw [if_pos h1]; simp; omega
    · by_cases h2 : y < x
      · rw [if_neg h1, if_pos h2]; simp; omega
      · have : x = y := by omega
        rw [if_neg h1, if_neg h2]; simp [this, ih]
theorem cmpB_refl (s : List Nat) : cmpB s s = 0 := (cmpB_zero s s).2 rfl
theorem cmpB_append : ∀ (x y u v : List Nat), x.length = y.length → cmpB (x ++ u) (y ++ v) = if cmpB x y = 0 then cmpB u v else cmpB x y
  | [], [], u, v, _ => by simp [cmpB]
  | a :: x, b :: y, u, v, h => by
    have ih := cmpB_append x y u v (by simpa using h)
    simp only [List.cons_append, cmpB]
    by_cases h1 : a < b
    · simp [h1]
    · by_cases h2 : b < a
      · simp [h1, h2]
      · simp only [if_neg h1, if_neg h2]; exact ih
theorem cmpB_be (m n k : Nat) : cmpB (be m k) (be n k) = cmpN (m % 256 ^ k) (n % 256 ^ k) := by
  induction k with
  | zero => simp [be, cmpB, cmpN, Nat.mod_one]
  | succ k ih =>
    have hm : m % 256 ^ (k + 1) = 256 ^ k * (m / 256 ^ k % 256) + m % 256 ^ k := by rw [Nat.pow_succ, Nat.mod_mul]; omega
    have hn : n % 256 ^ (k + 1) = 256 ^ k * (n / 256 ^ k % 256) + n % 256 ^ k := by rw [Nat.pow_succ, Nat.mod_mul]; omega
    have lm := Nat.mod_lt m (show 0 < 256 ^ k from Nat.pow_pos (by decide))
    have ln := Nat.mod_lt n (show 0 < 256 ^ k from Nat.pow_pos (by decide))
    simp only [be, cmpB, ih]
    rw [hm, hn]
    generalize m / 256 ^ k % 256 = a
    generalize n / 256 ^ k % 256 = b
    generalize m % 256 ^ k = c at *
    generalize n % 256 ^ k = d at *
    generalize 256 ^ k = K at *
    unfold cmpN
    by_cases h1 : a < b
    · have := Nat.mul_le_mul_left K (show a + 1 ≤ b from h1)
      rw [Nat.mul_add] at this
      rw [if_pos h1, if_pos (by omega)]
    · by_cases h2 : b < a
      · have := Nat.mul_le_mul_left K (show b + 1 ≤ a from h2)
        rw [Nat.mul_add] at this
        rw [if_neg h1, if_pos h2, if_neg (by omega), if_pos (by omega)]
      · obtain rfl : a = b := by omega
        simp only [if_neg h1, Nat.add_lt_add_iff_left]
theorem cmpB_bod : ∀ (x y u v : List Nat), cmpB (bod x ++ 0 :: 1 :: u) (bod y ++ 0 :: 1 :: v) = if cmpB x y = 0 then cmpB u v else cmpB x y
  | [], [], u, v => by simp [bod, cmpB]
  | [], b :: y, u, v => by
    by_cases h0 : b = 0
    · subst h0; rw [bod_zero]; simp [bod_nil, cmpB]
    · rw [bod_pos b y h0]; simp [bod_nil, cmpB]; omega
  | a :: x, [], u, v => by
    by_cases h0 : a = 0
    · subst h0; rw [bod_zero]; simp [bod_nil, cmpB]
    · rw [bod_pos a x h0]; simp [bod_nil, cmpB]; omega
  | a :: x, b :: y, u, v => by
    have ih := cmpB_bod x y u v
    by_cases h0 : a = 0
    · subst h0
      by_cases h1 : b = 0
      · subst h1; rw [bod_zero, bod_zero]; simp only [List.cons_append, cmpB, Nat.lt_irrefl, if_false]; exact ih
      · rw [bod_zero, bod_pos b y h1]
        have : 0 < b := by omega
        simp [cmpB, this]
    · by_cases h1 : b = 0
      · subst h1; rw [bod_zero, bod_pos a x h0]
        have : 0 < a := by omega
        simp [cmpB, this]
      · rw [bod_pos a x h0, bod_pos b y h1]
        simp only [List.cons_append, cmpB]
        by_cases h1 : a < b
        · simp [h1]
        · by_cases h2 : b < a
          · simp [h1, h2]
          · simp only [if_neg h1, if_neg h2]; exact ih
/-- How two parts stand; two lists of parts. -/
def cmpP (p q : Part) : Int := if p.t then (if q.t then cmpB (byt p.s) (byt q.s) else 1) else if q.t then -1 else cmpN p.n q.n
def cmpL : List Part → List Part → Int
  | [], [] => 0
  | [], _ :: _ => -1
  | _ :: _, [] => 1
  | p :: a, q :: b => if cmpP p q = 0 then cmpL a b else cmpP p q
theorem cmpB_enc1 (p q : Part) (hp : p.n < 18446744073709551616) (hq : q.n < 18446744073709551616) (u v : List Nat) : cmpB (enc1 p ++ u) (enc1 q ++ v) = if cmpP p q = 0 then cmpB u v else cmpP p q := by
  cases h1 : p.t with
  | true =>
    cases h2 : q.t with
    | true =>
      rw [enc1_text p h1, enc1_text q h2]
      simp only [List.cons_append, List.append_assoc, List.nil_append, cmpB, Nat.lt_irrefl, if_false, cmpP, h1, h2, if_true]
      exact cmpB_bod _ _ u v
    | false => rw [enc1_text p h1, enc1_num q h2]; simp [cmpB, cmpP, h1, h2]
  | false =>
    cases h2 : q.t with
    | true => rw [enc1_num p h1, enc1_text q h2]; simp [cmpB, cmpP, h1, h2]
    | false =>
      rw [enc1_num p h1, enc1_num q h2]
      have e : cmpP p q = cmpN p.n q.n := by simp [cmpP, h1, h2]
      simp only [List.cons_append, cmpB, Nat.lt_irrefl, if_false]
      rw [cmpB_append _ _ u v (by simp [be_length]), cmpB_be, Nat.mod_eq_of_lt (by simpa using hp), Nat.mod_eq_of_lt (by simpa using hq), e]
theorem cmpB_enc : ∀ (a b : List Part), (∀ p ∈ a, p.n < 18446744073709551616) → (∀ p ∈ b, p.n < 18446744073709551616) → cmpB (enc a) (enc b) = cmpL a b
  | [], [], _, _ => by simp [enc, cmpB, cmpL]
  | [], q :: b, _, _ => by
    rw [enc_cons]
    have : ∃ x r, enc1 q ++ enc b = x :: r := by unfold enc1; split <;> exact ⟨_, _, rfl⟩
    obtain ⟨x, r, h⟩ := this
    rw [h]; simp [enc, cmpB, cmpL]
  | p :: a, [], _, _ => by
    rw [enc_cons]
    have : ∃ x r, enc1 p ++ enc a = x :: r := by unfold enc1; split <;> exact ⟨_, _, rfl⟩
    obtain ⟨x, r, h⟩ := this
    rw [h]; simp [enc, cmpB, cmpL]
  | p :: a, q :: b, ha, hb => by
    rw [enc_cons, enc_cons, cmpB_enc1 p q (ha p List.mem_cons_self) (hb q List.mem_cons_self), cmpB_enc a b (fun x hx => ha x (List.mem_cons_of_mem _ hx)) (fun x hx => hb x (List.mem_cons_of_mem _ hx))]
    rfl

/-- How many bytes are left when all last bytes FF are taken off; what is behind. -/
def cut : List Nat → Nat
  | [] => 0
  | x :: r => if cut r = 0 then (if x = 255 then 0 else 1) else cut r + 1
def behind (s : List Nat) : List Nat := s.take (cut s - 1) ++ [s[cut s - 1]?.getD 0 + 1]
theorem cut_le (s : List Nat) : cut s ≤ s.length := by
  induction s with
  | nil => simp [cut]
  | cons x r ih => simp only [cut, List.length_cons]; split <;> (try split) <;> omega
theorem cut_last : ∀ (s : List Nat), 0 < cut s → s[cut s - 1]?.getD 0 ≠ 255
  | [], h => by simp [cut] at h
  | x :: r, h => by
    have ih := cut_last r
    simp only [cut] at h ⊢
    by_cases h0 : cut r = 0
    · simp only [h0, if_true] at h ⊢
      by_cases hx : x = 255
      · simp [hx] at h
      · simp [hx]
    · simp only [if_neg h0]
      rw [show cut r + 1 - 1 = (cut r - 1) + 1 by omega, List.getElem?_cons_succ]
      exact ih (by omega)
theorem cut_rest : ∀ (s : List Nat) (j : Nat), cut s ≤ j → j < s.length → s[j]?.getD 0 = 255
  | [], j, _, h => by simp at h
  | x :: r, j, h, hj => by
    simp only [cut] at h
    by_cases h0 : cut r = 0
    · simp only [h0, if_true] at h
      cases j with
      | zero =>
        by_cases hx : x = 255
        · simp [hx]
        · simp [hx] at h
      | succ j => rw [List.getElem?_cons_succ]; exact cut_rest r j (by omega) (by simpa using hj)
    · simp only [if_neg h0] at h
      cases j with
      | zero => omega
      | succ j => rw [List.getElem?_cons_succ]; exact cut_rest r j (by omega) (by simpa using hj)
theorem cut_eq (s : List Nat) (n : Nat) (hn : n ≤ s.length) (h1 : ∀ j, n ≤ j → j < s.length → s[j]?.getD 0 = 255) (h2 : 0 < n → s[n - 1]?.getD 0 ≠ 255) : cut s = n := by
  rcases Nat.lt_trichotomy (cut s) n with h | h | h
  · exact absurd (cut_rest s (n - 1) (by omega) (by omega)) (h2 (by omega))
  · exact h
  · have := cut_le s
    exact absurd (h1 (cut s - 1) (by omega) (by omega)) (cut_last s (by omega))
theorem behind_lt (s : List Nat) (hs : ∀ x ∈ s, x < 256) (h : 0 < cut s) : ∀ x ∈ behind s, x < 256 := by
  intro x hx
  have hl := cut_le s
  rcases List.mem_append.1 hx with hx | hx
  · exact hs x (List.mem_of_mem_take hx)
  · have := cut_last s h
    rw [List.mem_singleton.1 hx]
    rw [List.getElem?_eq_getElem (by omega), Option.getD_some] at this ⊢
    have := hs _ (List.getElem_mem (show cut s - 1 < s.length by omega))
    omega
theorem cmpB_mid : ∀ (x u v : List Nat) (a b : Nat), a < b → cmpB (x ++ a :: u) (x ++ b :: v) = -1
  | [], u, v, a, b, h => by simp [cmpB, h]
  | c :: x, u, v, a, b, h => by simp only [List.cons_append, cmpB, Nat.lt_irrefl, if_false]; exact cmpB_mid x u v a b h
theorem less_behind (s r : List Nat) (h : 0 < cut s) : less (s ++ r) (behind s) = true := by
  have hl := cut_le s
  have e : s ++ r = s.take (cut s - 1) ++ (s[cut s - 1]?.getD 0 :: (s.drop (cut s - 1 + 1) ++ r)) := by
    have h1 : s.drop (cut s - 1) = s[cut s - 1]?.getD 0 :: s.drop (cut s - 1 + 1) := by
      rw [List.getElem?_eq_getElem (show cut s - 1 < s.length by omega), Option.getD_some]
      exact List.drop_eq_getElem_cons (by omega)
    rw [← List.cons_append, ← h1, ← List.append_assoc, List.take_append_drop]
  rw [less_cmp, e]
  unfold behind
  rw [cmpB_mid _ _ _ _ _ (Nat.lt_succ_self _)]
  decide
theorem cut_pos (x : Nat) (r : List Nat) (h : x ≠ 255) : 0 < cut (x :: r) := by
  have e : cut (x :: r) = if cut r = 0 then (if x = 255 then 0 else 1) else cut r + 1 := rfl
  rw [e, if_neg h]; split <;> omega
end M
end Go.Proofs.Ytccjdajneoploaa
