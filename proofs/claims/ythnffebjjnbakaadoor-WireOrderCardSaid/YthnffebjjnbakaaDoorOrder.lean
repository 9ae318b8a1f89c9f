/-
  WireOrder: the walk of the law.
-/
import Derived.Test.YthnffebjjnbakaaDoorGate
namespace Go.Proofs.YthnffebjjnbakaaDoor
namespace wireOrder
open Go.RowKit

/-- Bytes stand, bytewise. -/
def lessN : List Nat → List Nat → Bool
  | _, [] => false
  | [], _ :: _ => true
  | x :: s, y :: t => decide (x < y) || (x == y && lessN s t)
theorem less_map : ∀ (s t : List Nat), (∀ x ∈ s, x < 256) → (∀ x ∈ t, x < 256) → Op.bytesLess (s.map fun x : Nat => UInt8.ofNat x) (t.map fun x : Nat => UInt8.ofNat x) = lessN s t
  | [], [], _, _ => rfl
  | _ :: _, [], _, _ => rfl
  | [], _ :: _, _, _ => rfl
  | x :: s, y :: t, hs, ht => by
    have hx : x < 256 := hs x List.mem_cons_self
    have hy : y < 256 := ht y List.mem_cons_self
    have ih := less_map s t (fun z hz => hs z (List.mem_cons_of_mem _ hz)) (fun z hz => ht z (List.mem_cons_of_mem _ hz))
    have ex : (UInt8.ofNat x).toNat = x := by simp [UInt8.toNat_ofNat', Nat.mod_eq_of_lt hx]
    have ey : (UInt8.ofNat y).toNat = y := by simp [UInt8.toNat_ofNat', Nat.mod_eq_of_lt hy]
    have h1 : decide (UInt8.ofNat x < UInt8.ofNat y) = decide (x < y) := decide_eq_decide.2 (by rw [UInt8.lt_iff_toNat_lt, ex, ey])
    have h2 : (UInt8.ofNat x == UInt8.ofNat y) = (x == y) := by
      rw [Bool.eq_iff_iff, beq_iff_eq, beq_iff_eq, ← UInt8.toNat_inj, ex, ey]
    simp only [List.map_cons, Op.bytesLess, lessN]
    rw [ih, h1, h2]
theorem less_eq (s t : List Nat) (hs : ∀ x ∈ s, x < 256) (ht : ∀ x ∈ t, x < 256) : Op.bytesLess (strB s).toList (strB t).toList = lessN s t := by
  rw [ByteArray.toList_eq, ByteArray.toList_eq]
  exact less_map s t hs ht
theorem lex (P x y r s : Nat) (hr : r < P) (hs : s < P) : (P * x + r < P * y + s) ↔ (x < y ∨ (x = y ∧ r < s)) := by
  rcases Nat.lt_trichotomy x y with h | h | h
  · have := Nat.mul_le_mul_left P (show x + 1 ≤ y from h)
    rw [Nat.mul_add] at this
    omega
  · subst h; omega
  · have := Nat.mul_le_mul_left P (show y + 1 ≤ x from h)
    rw [Nat.mul_add] at this
    omega
theorem lessN_be (a b k : Nat) : lessN (M.be a k) (M.be b k) = decide (a % 256 ^ k < b % 256 ^ k) := by
  induction k with
  | zero => simp [M.be, lessN, Nat.mod_one]
  | succ k ih =>
    have e : ∀ n : Nat, n % 256 ^ (k + 1) = 256 ^ k * (n / 256 ^ k % 256) + n % 256 ^ k := fun n => by
      rw [Nat.pow_succ, Nat.mod_mul, Nat.add_comm]
    have hp : 0 < 256 ^ k := Nat.pow_pos (by decide)
    rw [M.be, M.be, lessN, ih, e a, e b, Bool.eq_iff_iff]
    simp only [Bool.or_eq_true, Bool.and_eq_true, decide_eq_true_iff, beq_iff_eq]
    exact (lex _ _ _ _ _ (Nat.mod_lt _ hp) (Nat.mod_lt _ hp)).symm
theorem lessN_code (a b : Nat) (ha : a < 18446744073709551616) (hb : b < 18446744073709551616) : lessN (M.code a) (M.code b) = decide (a < b) := by
  have ta := M.top_lt a ha
  have tb := M.top_lt b hb
  unfold M.code
  rw [lessN, Bool.eq_iff_iff]
  simp only [Bool.or_eq_true, Bool.and_eq_true, decide_eq_true_iff, beq_iff_eq]
  rcases Nat.lt_trichotomy (M.fol a) (M.fol b) with h | h | h
  · have h1 := M.lead_step _ _ _ h (M.fol_le b) ta
    have h2 : a < b := by
      rcases Nat.lt_or_ge a b with h2 | h2
      · exact h2
      · have := M.fol_mono b a h2; omega
    exact ⟨fun _ => h2, fun _ => Or.inl (Nat.lt_of_lt_of_le h1 (Nat.le_add_right _ _))⟩
  · rw [← h, lessN_be, decide_eq_true_iff]
    have hp : 0 < 256 ^ M.fol a := Nat.pow_pos (by decide)
    have e : ∀ n : Nat, n = 256 ^ M.fol a * (n / 256 ^ M.fol a) + n % 256 ^ M.fol a := fun n => (Nat.div_add_mod n _).symm
    have hx := lex (256 ^ M.fol a) (a / 256 ^ M.fol a) (b / 256 ^ M.fol a) _ _ (Nat.mod_lt a hp) (Nat.mod_lt b hp)
    rw [← e a, ← e b] at hx
    rw [hx]
    omega
  · have h1 := M.lead_step _ _ _ h (M.fol_le a) tb
    have h2 : ¬ a < b := by
      intro h2
      have := M.fol_mono a b (Nat.le_of_lt h2); omega
    have h3 := Nat.lt_of_lt_of_le h1 (Nat.le_add_right _ (a / 256 ^ M.fol a))
    refine ⟨fun hh => ?_, fun hh => absurd hh h2⟩
    rcases hh with hh | hh
    · exact absurd hh (Nat.not_lt.2 (Nat.le_of_lt h3))
    · exact absurd hh.1 (Nat.ne_of_gt h3)
theorem code_inj {a b : Nat} (ha : a < 18446744073709551616) (hb : b < 18446744073709551616) (h : M.code a = M.code b) : a = b := by
  have h1 := M.parse_code a ha []
  have h2 := M.parse_code b hb []
  rw [h, h2] at h1
  simp at h1
  exact h1.symm

set_option maxRecDepth 100000 in
set_option maxHeartbeats 1600000 in
theorem walk (a b : Int) (w : World) (ht : Tab w) (ha : 0 ≤ a ∧ a ≤ 18446744073709551615) (hb : 0 ≤ b ∧ b ≤ 18446744073709551615) :
    Calls Tryd.prog 10 #[.int .u64 a, .int .u64 b] w fun e w' => e = .returned (.bool true) ∧ Below w.heap.size w w' := by
  obtain ⟨m, hm⟩ : ∃ n : Nat, (n : Int) = a := ⟨a.toNat, by omega⟩
  obtain ⟨n, hn⟩ : ∃ n : Nat, (n : Int) = b := ⟨b.toNat, by omega⟩
  have hm64 : m < 18446744073709551616 := by omega
  have hn64 : n < 18446744073709551616 := by omega
  have h1 := fun W => number_any none 0 [] m W (Row.none_ _ _ _) (by decide) hm64
  have h2 := fun W => number_any none 0 [] n W (Row.none_ _ _ _) (by decide) hn64
  rw [hm] at h1
  rw [hn] at h2
  simp only [List.nil_append, List.length_nil] at h1 h2
  have hless : Op.bytesLess (strB (M.code m)).toList (strB (M.code n)).toList = decide (a < b) := by
    rw [less_eq _ _ (M.code_lt m hm64) (M.code_lt n hn64), lessN_code m n hm64 hn64]
    exact decide_eq_decide.2 (by omega)
  have hsame : ((strB (M.code m)).toList == (strB (M.code n)).toList) = decide (a = b) := by
    rw [toList_same, byt_strB _ (M.code_lt m hm64), byt_strB _ (M.code_lt n hn64)]
    exact decide_eq_decide.2 ⟨fun h => by have := code_inj hm64 hn64 h; omega, fun h => by rw [show m = n by omega]⟩
  have H1 := Lib.hid (M.code_lt m hm64)
  have H2 := Lib.hid (M.code_lt n hn64)
  obtain ⟨C, hC⟩ : ∃ C, M.code m = C := ⟨_, rfl⟩
  obtain ⟨D, hD⟩ : ∃ D, M.code n = D := ⟨_, rfl⟩
  rw [hC] at h1 hless hsame H1
  rw [hD] at h2 hless hsame H2
  have HT := Lib.hid ht
  have HN1 := Lib.hid h1
  have HN2 := Lib.hid h2
  have heq : (a == b) = decide (a = b) := rfl
  obtain ⟨S, hS⟩ : ∃ S, strB C = S := ⟨_, rfl⟩
  obtain ⟨T, hTT⟩ : ∃ T, strB D = T := ⟨_, rfl⟩
  rw [hS, hTT] at hless hsame
  have HS := Lib.hid hS
  have HTT := Lib.hid hTT
  clear ht hC hD hm hn hm64 hn64 h1 h2 ha hb hS hTT
  go_enter Tryd.func10, Tryd.ntmps10
  go_wp2_with fail
  refine (shown_any _ HT.out).mono ?_
  rintro e w1 ⟨rfl, hb1⟩
  have HB1 := Lib.hid hb1
  clear hb1
  go_wp2_with fail
  refine (HN1.out _).mono ?_
  rintro e w2 ⟨g2, c2, rfl, ho2, hb2⟩
  have hs2 := run_str _ c2 C w2 _ (ho2.row H1.out ho2.lt.2)
  rw [HS.out] at hs2
  have HB2 : Hid (Below w.heap.size w w2) := HB1.out.trans (hb2.mono HB1.out.size)
  clear ho2 hb2
  go_wp2_with fail
  refine (HN2.out _).mono ?_
  rintro e w3 ⟨g3, c3, rfl, ho3, hb3⟩
  have hs3 := run_str _ c3 D w3 _ (ho3.row H2.out ho3.lt.2)
  rw [HTT.out] at hs3
  have HB3 : Hid (Below w.heap.size w w3) := HB2.out.trans (hb3.mono HB2.out.size)
  clear ho3 hb3 hs2
  go_wp2
  go_ret
  exact ⟨ret_bool (by simp), HB3.out⟩
end wireOrder
end Go.Proofs.YthnffebjjnbakaaDoor
