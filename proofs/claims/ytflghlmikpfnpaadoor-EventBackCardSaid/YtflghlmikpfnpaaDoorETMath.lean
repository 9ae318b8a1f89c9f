/-
  Plain facts on texts: digits and numbers; which trees texts are. No program here.
-/
import Derived.Test.YtflghlmikpfnpaaDoorEFo
import Derived.Lib.ItoaLen
namespace Go.Proofs.YtflghlmikpfnpaaDoor.E

def isD (b : UInt8) : Bool := decide (48 ≤ b.toNat) && decide (b.toNat ≤ 57)
def dgv (b : UInt8) : Nat := b.toNat - 48
/-- What digits come to, behind a number. -/
def val (n : Nat) (ds : List UInt8) : Nat := ds.foldl (fun a b => a * 10 + dgv b) n
theorem val_nil (n : Nat) : val n [] = n := rfl
theorem val_cons (n : Nat) (b : UInt8) (ds : List UInt8) : val n (b :: ds) = val (n * 10 + dgv b) ds := by unfold val; rw [List.foldl_cons]
theorem val_append (n : Nat) (ds es : List UInt8) : val n (ds ++ es) = val (val n ds) es := by unfold val; rw [List.foldl_append]
theorem val_ge : ∀ (ds : List UInt8) (n : Nat), n ≤ val n ds
  | [], _ => Nat.le_refl _
  | b :: ds, n => by have := val_ge ds (n * 10 + dgv b); rw [val_cons]; omega
theorem isD_of {d : Nat} (h : d < 10) : isD (UInt8.ofNat (48 + d)) = true ∧ dgv (UInt8.ofNat (48 + d)) = d := by
  have e : (UInt8.ofNat (48 + d)).toNat = 48 + d := by rw [UInt8.toNat_ofNat']; omega
  unfold isD dgv
  rw [e]
  simp
  omega
theorem isD_eq {b : UInt8} (h : isD b = true) : b = UInt8.ofNat (48 + dgv b) ∧ dgv b < 10 := by
  unfold isD at h
  simp only [Bool.and_eq_true, decide_eq_true_eq] at h
  refine ⟨?_, by unfold dgv; omega⟩
  apply UInt8.toNat_inj.1
  rw [UInt8.toNat_ofNat']
  unfold dgv
  omega
/-- Digits as a number is written: no 0 ahead of another one. -/
def Canon : List UInt8 → Prop
  | [] => False
  | b :: ds => (∀ x ∈ b :: ds, isD x = true) ∧ (ds = [] ∨ dgv b ≠ 0)
theorem dec_canon (u : Nat) : Canon (Lib.decDigits u) ∧ val 0 (Lib.decDigits u) = u := by
  induction u using Nat.strongRecOn with
  | _ u ih =>
  by_cases h : u < 10
  · rw [Lib.decDigits, dif_pos h]
    obtain ⟨h1, h2⟩ := isD_of h
    exact ⟨⟨fun x hx => by simp only [List.mem_singleton] at hx; rw [hx]; exact h1, .inl rfl⟩, by rw [val_cons, val_nil, h2]; omega⟩
  · rw [Lib.decDigits, dif_neg h]
    obtain ⟨i1, i2⟩ := ih (u / 10) (by omega)
    obtain ⟨h1, h2⟩ := isD_of (d := u % 10) (by omega)
    refine ⟨?_, by rw [val_append, i2, val_cons, val_nil, h2]; omega⟩
    cases hd : Lib.decDigits (u / 10) with
    | nil => rw [hd] at i1; exact i1.elim
    | cons b ds =>
      rw [hd] at i1 i2
      refine ⟨?_, .inr fun h0 => ?_⟩
      · intro x hx
        rcases List.mem_append.1 (show x ∈ (b :: ds) ++ [UInt8.ofNat (48 + u % 10)] from hx) with hx | hx
        · exact i1.1 x hx
        · simp only [List.mem_singleton] at hx; rw [hx]; exact h1
      · rcases i1.2 with e | e
        · subst e
          simp only [val, List.foldl_cons, List.foldl_nil] at i2
          omega
        · exact e h0
theorem dec_snoc {n d : Nat} (hn : 1 ≤ n) (hd : d < 10) : Lib.decDigits (n * 10 + d) = Lib.decDigits n ++ [UInt8.ofNat (48 + d)] := by
  rw [Lib.decDigits, dif_neg (by omega), show (n * 10 + d) / 10 = n by omega, show (n * 10 + d) % 10 = d by omega]
theorem dec_val : ∀ (es : List UInt8) (n : Nat), 1 ≤ n → (∀ x ∈ es, isD x = true) → Lib.decDigits (val n es) = Lib.decDigits n ++ es
  | [], n, _, _ => by simp [val]
  | b :: es, n, hn, h => by
    obtain ⟨h1, h2⟩ := isD_eq (h b List.mem_cons_self)
    rw [val_cons, dec_val es (n * 10 + dgv b) (by omega) fun x hx => h x (List.mem_cons_of_mem _ hx), dec_snoc hn h2, ← h1]
    simp
theorem canon_dec {ds : List UInt8} (h : Canon ds) : Lib.decDigits (val 0 ds) = ds := by
  cases ds with
  | nil => exact h.elim
  | cons b es =>
    obtain ⟨h1, h2⟩ := isD_eq (h.1 b List.mem_cons_self)
    have e0 : Lib.decDigits (dgv b) = [b] := by rw [Lib.decDigits, dif_pos h2, ← h1]
    rw [val_cons, Nat.zero_mul, Nat.zero_add]
    rcases h.2 with e | e
    · subst e; simpa [val] using e0
    · rw [dec_val es (dgv b) (by omega) fun x hx => h.1 x (List.mem_cons_of_mem _ hx), e0]; rfl
/-- What stands behind a number: no digit. -/
def NoD : List UInt8 → Prop
  | [] => True
  | b :: _ => isD b = false
/-- The program's look at digits: what they come to, how many; none: no number. -/
def scan : List UInt8 → Bool → Nat → Nat → Option (Nat × Nat)
  | [], _, n, k => some (n, k)
  | b :: r, st, n, k => if isD b = true then (if (st = true ∧ n = 0) ∨ (4611686018427387904 - dgv b) / 10 < n then none else scan r true (n * 10 + dgv b) (k + 1)) else some (n, k)
theorem scan_go : ∀ (es rest : List UInt8) (n k : Nat), 1 ≤ n → (∀ x ∈ es, isD x = true) → NoD rest → val n es ≤ 4611686018427387904 → scan (es ++ rest) true n k = some (val n es, k + es.length)
  | [], rest, n, k, _, _, hr, _ => by
    cases rest with
    | nil => rfl
    | cons b r => rw [List.nil_append, scan, if_neg (by rw [hr]; decide)]; rfl
  | b :: es, rest, n, k, hn, hd, hr, hv => by
    have h2 := (isD_eq (hd b List.mem_cons_self)).2
    rw [val_cons] at hv
    have := val_ge es (n * 10 + dgv b)
    rw [List.cons_append, scan, if_pos (hd b List.mem_cons_self), if_neg (by omega), scan_go es rest _ _ (by omega) (fun x hx => hd x (List.mem_cons_of_mem _ hx)) hr hv, val_cons, List.length_cons]
    congr 2
    omega
theorem scan_full {ds rest : List UInt8} (hc : Canon ds) (hr : NoD rest) (hv : val 0 ds ≤ 4611686018427387904) : scan (ds ++ rest) false 0 0 = some (val 0 ds, ds.length) := by
  cases ds with
  | nil => exact hc.elim
  | cons b es =>
    have h1 := hc.1 b List.mem_cons_self
    have h2 := (isD_eq h1).2
    rw [val_cons, Nat.zero_mul, Nat.zero_add] at hv ⊢
    rw [List.cons_append, scan, if_pos h1, if_neg (by simp), Nat.zero_mul, Nat.zero_add]
    rcases hc.2 with e | e
    · subst e
      simp only [List.nil_append, val_nil, List.length_cons, List.length_nil, Nat.zero_add]
      cases rest with
      | nil => rfl
      | cons x r => rw [scan, if_neg (by rw [hr]; decide)]
    · rw [scan_go es rest _ _ (by omega) (fun x hx => hc.1 x (List.mem_cons_of_mem _ hx)) hr hv, List.length_cons, Nat.zero_add, Nat.add_comm]
theorem scan_back : ∀ (r : List UInt8) (n k m j : Nat), scan r true n k = some (m, j) → n ≤ 4611686018427387904 → ∃ es rest, r = es ++ rest ∧ (∀ x ∈ es, isD x = true) ∧ (es = [] ∨ n ≠ 0) ∧ m = val n es ∧ j = k + es.length ∧ m ≤ 4611686018427387904
  | [], n, k, m, j, h, hn => by
    simp only [scan, Option.some.injEq, Prod.mk.injEq] at h
    exact ⟨[], [], rfl, by simp, .inl rfl, h.1.symm, by simp [h.2], by omega⟩
  | b :: r, n, k, m, j, h, hn => by
    rw [scan] at h
    split at h
    · rename_i hb
      split at h
      · cases h
      · rename_i hg
        have h2 := (isD_eq hb).2
        obtain ⟨es, rest, e1, e2, _, e4, e5, e6⟩ := scan_back r (n * 10 + dgv b) (k + 1) m j h (by omega)
        refine ⟨b :: es, rest, by rw [e1]; rfl, ?_, .inr fun h0 => hg (.inl ⟨rfl, h0⟩), by rw [val_cons]; exact e4, by rw [e5, List.length_cons]; omega, e6⟩
        intro x hx
        rcases List.mem_cons.1 hx with rfl | hx
        · exact hb
        · exact e2 x hx
    · simp only [Option.some.injEq, Prod.mk.injEq] at h
      exact ⟨[], b :: r, rfl, by simp, .inl rfl, h.1.symm, by simp [h.2], by omega⟩
theorem scan_some {r : List UInt8} {m j : Nat} (h : scan r false 0 0 = some (m, j)) (hj : 0 < j) : r = Lib.decDigits m ++ r.drop j ∧ j = (Lib.decDigits m).length ∧ m ≤ 4611686018427387904 := by
  cases r with
  | nil => simp only [scan, Option.some.injEq, Prod.mk.injEq] at h; omega
  | cons b r =>
    rw [scan] at h
    split at h
    · rename_i hb
      rw [if_neg (by simp), Nat.zero_mul, Nat.zero_add] at h
      have h2 := (isD_eq hb).2
      obtain ⟨es, rest, e1, e2, e3, e4, e5, e6⟩ := scan_back r _ _ m j h (by omega)
      have hc : Canon (b :: es) := ⟨fun x hx => by
        rcases List.mem_cons.1 hx with rfl | hx
        · exact hb
        · exact e2 x hx, e3⟩
      have hd := canon_dec hc
      rw [val_cons, Nat.zero_mul, Nat.zero_add, ← e4] at hd
      rw [hd]
      have hl : j = (b :: es).length := by rw [e5, List.length_cons]; omega
      refine ⟨?_, hl, e6⟩
      rw [hl, e1, ← List.cons_append, List.drop_left]
    · simp only [Option.some.injEq, Prod.mk.injEq] at h; omega
end Go.Proofs.YtflghlmikpfnpaaDoor.E
