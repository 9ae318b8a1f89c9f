/-
  Plain mathematics: the gamma code that is read is the number's own, and the other way round.
-/
import Derived.Test.YtflghlmikpfnpaaDoorMath3
namespace Go.Proofs.YtflghlmikpfnpaaDoor.M

def bitsFrom (l : List Nat) (b k : Nat) : List Nat := (List.range k).map fun i => bitAt l (b + i)
theorem bitsFrom_succ (l : List Nat) (b k : Nat) : bitsFrom l b (k + 1) = bitsFrom l b k ++ [bitAt l (b + k)] := by simp [bitsFrom, List.range_succ]
theorem bitsFrom_length (l : List Nat) (b k : Nat) : (bitsFrom l b k).length = k := by simp [bitsFrom]
theorem bitsFrom_get (l : List Nat) (b k i : Nat) (h : i < k) : (bitsFrom l b k)[i]? = some (bitAt l (b + i)) := by simp [bitsFrom, h]
theorem digs_one (b : Nat) (h : b < 2) : digs b 1 = [b] := by
  have : b = 0 ∨ b = 1 := by omega
  rcases this with rfl | rfl <;> rfl
theorem digs_snoc (v b w : Nat) (h : b < 2) : digs (2 * v + b) (w + 1) = digs v w ++ [b] := by
  have := digs_append v b w 1 (by simpa using h)
  rw [digs_one b h] at this
  rw [← this]; congr 1; omega
theorem digs_num (l : List Nat) (b k : Nat) (hk : k ≤ 64) : digs (num l b k) k = bitsFrom l b k := by
  induction k with
  | zero => rfl
  | succ k ih => rw [num_succ l b k (by omega), digs_snoc _ _ _ (bitAt_lt l (b + k)), ih (by omega), bitsFrom_succ]
theorem num_of_digs (l : List Nat) (b k x : Nat) (hk : k ≤ 64) (hx : x < 2 ^ k) (h : bitsFrom l b k = digs x k) : num l b k = x := by
  induction k generalizing x with
  | zero => have : x = 0 := by simpa using hx
            rw [this]; rfl
  | succ k ih =>
    have e : x = 2 * (x / 2) + x % 2 := by omega
    rw [bitsFrom_succ, e, digs_snoc _ _ _ (Nat.mod_lt _ (by decide))] at h
    have hi := List.append_inj h (by rw [bitsFrom_length, digs_length])
    rw [num_succ l b k (by omega), ih (x / 2) (by omega) (by rw [Nat.pow_succ] at hx; omega) hi.1]
    have := hi.2
    simp at this
    omega

/-- The gamma code of v. -/
def gamma (v : Nat) : List Nat := digs (v + 1) (2 * bl (v + 1) - 1)
theorem gamma_split (v z : Nat) (hz : bl (v + 1) = z + 1) : gamma v = List.replicate z 0 ++ digs (v + 1) (z + 1) := by
  unfold gamma
  rw [hz, show 2 * (z + 1) - 1 = z + (z + 1) by omega, digs_pad _ _ _ ((bl_le _ _).1 (by omega))]
theorem gamma_length (v z : Nat) (hz : bl (v + 1) = z + 1) : (gamma v).length = 2 * z + 1 := by rw [gamma_split v z hz]; simp [digs_length]; omega
theorem gamma_lt (v : Nat) : ∀ b ∈ gamma v, b < 2 := digs_lt _ _

theorem own_gamma {l : List Nat} {n a v e : Nat} (h : ownN l n a = some (v, e)) : v < 4611686018427387904 ∧ e = a + (gamma v).length ∧ e ≤ n ∧ 0 < (gamma v).length ∧ ∀ i, i < (gamma v).length → bitAt l (a + i) = (gamma v)[i]?.getD 0 := by
  unfold ownN at h
  split at h
  · rename_i hc
    obtain ⟨h1, h2, h3⟩ := hc
    generalize hz : lead l a (n - a) = z at *
    injection h with h
    injection h with hv he
    have hone : bitAt l (a + z) = 1 := by
      have := lead_one l a (n - a) (by omega)
      rwa [hz] at this
    have hge := num_ge l (a + z) z hone (by omega)
    have hlt := num_lt l (a + z) (z + 1)
    have hp := Nat.one_le_two_pow (n := z)
    have hx : v + 1 = num l (a + z) (z + 1) := by omega
    have hbl : bl (v + 1) = z + 1 := by
      have hle := (bl_le (v + 1) (z + 1)).2 (by rw [hx]; exact hlt)
      have hnot : ¬ bl (v + 1) ≤ z := fun hh => by have := (bl_le (v + 1) z).1 hh; omega
      omega
    have hgl := gamma_length v z hbl
    refine ⟨by omega, by omega, by omega, by omega, fun i hi => ?_⟩
    rw [gamma_split v z hbl]
    by_cases hiz : i < z
    · rw [List.getElem?_append_left (by simpa using hiz), lead_zero l a (n - a) i (by omega)]
      simp [hiz]
    · rw [List.getElem?_append_right (by simp; omega), hx, digs_num l (a + z) (z + 1) (by omega), List.length_replicate, bitsFrom_get _ _ _ _ (by omega), Option.getD_some]
      congr 1; omega
  · cases h

theorem own_of_gamma {l : List Nat} {n a v : Nat} (hv : v < 4611686018427387904) (hn : a + (gamma v).length ≤ n) (h : ∀ i, i < (gamma v).length → bitAt l (a + i) = (gamma v)[i]?.getD 0) : ownN l n a = some (v, a + (gamma v).length) := by
  have hb0 := bl_pos (v + 1) (by omega)
  obtain ⟨z, hz⟩ : ∃ z, bl (v + 1) = z + 1 := ⟨bl (v + 1) - 1, by omega⟩
  have hgl := gamma_length v z hz
  have h63 : bl (v + 1) ≤ 63 := (bl_le _ _).2 (by show v + 1 < 9223372036854775808; omega)
  have hsp := gamma_split v z hz
  have hlt : v + 1 < 2 ^ (z + 1) := (bl_le _ _).1 (by omega)
  have hge : 2 ^ z ≤ v + 1 := by
    rcases Nat.lt_or_ge (v + 1) (2 ^ z) with hh | hh
    · have := (bl_le (v + 1) z).2 hh; omega
    · exact hh
  have hzero : ∀ j, j < z → bitAt l (a + j) = 0 := fun j hj => by
    rw [h j (by omega), hsp, List.getElem?_append_left (by simpa using hj)]; simp [hj]
  have hrest : ∀ j, j < z + 1 → bitAt l (a + z + j) = (digs (v + 1) (z + 1))[j]?.getD 0 := fun j hj => by
    rw [show a + z + j = a + (z + j) by omega, h (z + j) (by omega), hsp, List.getElem?_append_right (by simp), List.length_replicate, show z + j - z = j by omega]
  have hseg : bitsFrom l (a + z) (z + 1) = digs (v + 1) (z + 1) := by
    apply List.ext_getElem?
    intro i
    by_cases hi : i < z + 1
    · rw [bitsFrom_get _ _ _ _ hi, hrest i hi, List.getElem?_eq_getElem (by rw [digs_length]; exact hi), Option.getD_some]
    · rw [List.getElem?_eq_none (by rw [bitsFrom_length]; omega), List.getElem?_eq_none (by rw [digs_length]; omega)]
  have hnum := num_of_digs l (a + z) (z + 1) (v + 1) (by omega) hlt hseg
  have hone : bitAt l (a + z) = 1 := by
    have := hrest 0 (by omega)
    rw [Nat.add_zero, digs_getElem _ _ _ (by omega)] at this
    rw [this, show z + 1 - 1 - 0 = z by omega]
    have : (v + 1) / 2 ^ z = 1 := by
      rw [Nat.pow_succ] at hlt
      exact Nat.div_eq_of_lt_le (by omega) (by omega)
    rw [this]
  have hlead : lead l a (n - a) = z := lead_eq l a (n - a) z (by omega) hzero (.inr (by rw [hone]; decide))
  rw [own_some hlead (by omega) (by omega) (by rw [hnum]; omega), hnum, hgl]
  congr 2
end Go.Proofs.YtflghlmikpfnpaaDoor.M
