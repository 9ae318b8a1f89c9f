/-
  The reference's number.
-/
import Derived.Test.YtflghlmikpfnpaaDoorELrd
import Derived.Test.YtflghlmikpfnpaaDoorENum
namespace Go.Proofs.YtflghlmikpfnpaaDoor.E
open Go.RowKit

def numRV (s : ByteArray) (p : Nat) : Value := .tuple #[.int .i64 (cutN (lnum (ul s) p).1), .int .i64 ((p + (lnum (ul s) p).2 : Nat) : Int)]
theorem numRV_of {s : ByteArray} {p n k : Nat} (h : lnum (ul s) p = (n, k)) {V J : Int} (hV : V = cutN n) (hJ : J = ((p + k : Nat) : Int)) : numRV s p = .tuple #[.int .i64 V, .int .i64 J] := by
  unfold numRV
  rw [h, hV, hJ]
theorem lsc_end {s : ByteArray} {j : Nat} (h : s.size ≤ j) (f n k : Nat) : lsc f ((ul s).drop j) n k = (n, k) := by
  rw [List.drop_eq_nil_of_le (by rw [ul_length]; exact h)]
  cases f <;> rfl
theorem lsc_at {s : ByteArray} {j : Nat} (h : j < s.size) (f n k : Nat) : lsc (f + 1) ((ul s).drop j) n k = if isD (s[j]'h) = true then lsc f ((ul s).drop (j + 1)) (10 * n + dgv (s[j]'h)) (k + 1) else (n, k) := by
  rw [at_drop (ul_at s j h)]; rfl

set_option maxRecDepth 100000 in
set_option maxHeartbeats 1600000 in
theorem rnumber_any (s : ByteArray) (p : Nat) (w : World) (hs : s.size ≤ 140737488355328) (hp : p ≤ s.size) :
    Calls Tryd.prog 79 #[.string s, .int .i64 (p : Int)] w fun e w' => e = .returned (numRV s p) ∧ w = w' := by
  go_enter Tryd.func79, Tryd.ntmps79
  go_wp2
  go_loopg [6, 7] 19 (fun m n i wr => ∃ (k : Nat) (V : Int), p + k ≤ s.size ∧ k ≤ 19 ∧ m = 19 - k ∧ n = .int .u64 V ∧ i = .int .i64 ((p + k : Nat) : Int) ∧ 0 ≤ V ∧ Hid (V.toNat < 10 ^ k) ∧ Hid (lnum (ul s) p = lsc (19 - k) ((ul s).drop (p + k)) V.toNat k) ∧ Hid (w = wr))
  case atStart => exact ⟨0, 0, by omega, by omega, by omega, rfl, rfl, by omega, by show _ < _; decide, rfl, rfl⟩
  case round =>
    obtain ⟨k, V, hk, hk19, hgk, rfl, rfl, hV0, hVk, hsc, hB⟩ := hrel
    have HG := Lib.hid hgk; clear hgk
    obtain ⟨j, hj⟩ : ∃ j, p + k = j := ⟨_, rfl⟩
    rw [hj] at hk hsc ⊢
    have HJ := Lib.hid hj
    have hpj : p ≤ j := by omega
    have hV1 : V ≤ 9999999999999999999 := by
      have := hVk.out
      have : 10 ^ k ≤ 10 ^ 19 := Nat.pow_le_pow_right (by omega) hk19
      omega
    by_cases hend : j = s.size
    · subst hend
      have HL : Hid (lnum (ul s) p = (V.toNat, k)) := hsc.out.trans (lsc_end (by omega) _ _ _)
      clear hsc hj
      by_cases hv : 4611686018427387905 < V
      · have HR : Hid (numRV s p = .tuple #[.int .i64 4611686018427387905, .int .i64 (s.size : Int)]) := numRV_of HL.out (by unfold cutN; omega) (by rw [HJ.out])
        clear HL
        go_wp2
        refine bodyPost_ret (v := .tuple #[.int .i64 4611686018427387905, .int .i64 (s.size : Int)]) (by simp [results, Tryd.f79, go_sem]; omega) rfl ?_
        exact ⟨by rw [HR.out], hB.out⟩
      · have HR : Hid (numRV s p = .tuple #[.int .i64 V, .int .i64 (s.size : Int)]) := numRV_of HL.out (by unfold cutN; omega) (by rw [HJ.out])
        have hv2 : V ≤ 4611686018427387905 := by omega
        clear HL
        go_wp2
        refine bodyPost_ret (v := .tuple #[.int .i64 V, .int .i64 (s.size : Int)]) (by simp [results, Tryd.f79, go_sem]; omega) rfl ?_
        exact ⟨by rw [HR.out], hB.out⟩
    · have hjs : j < s.size := by omega
      by_cases hk2 : k = 19
      · have HL : Hid (lnum (ul s) p = (V.toNat, k)) := by show _ = _; rw [hsc.out, hk2]; rfl
        have hji : (j : Int) - (p : Int) = 19 := by omega
        have hji2 : ¬ (j : Int) - (p : Int) < 19 := by omega
        clear hsc hj
        by_cases hv : 4611686018427387905 < V
        · have HR : Hid (numRV s p = .tuple #[.int .i64 4611686018427387905, .int .i64 (j : Int)]) := numRV_of HL.out (by unfold cutN; omega) (by rw [HJ.out])
          clear HL
          go_wp2
          refine bodyPost_ret (v := .tuple #[.int .i64 4611686018427387905, .int .i64 (j : Int)]) (by simp [results, Tryd.f79, go_sem]; omega) rfl ?_
          exact ⟨by rw [HR.out], hB.out⟩
        · have HR : Hid (numRV s p = .tuple #[.int .i64 V, .int .i64 (j : Int)]) := numRV_of HL.out (by unfold cutN; omega) (by rw [HJ.out])
          have hv2 : V ≤ 4611686018427387905 := by omega
          clear HL
          go_wp2
          refine bodyPost_ret (v := .tuple #[.int .i64 V, .int .i64 (j : Int)]) (by simp [results, Tryd.f79, go_sem]; omega) rfl ?_
          exact ⟨by rw [HR.out], hB.out⟩
      · have hst := hsc.out
        rw [show 19 - k = (18 - k) + 1 by omega, lsc_at hjs] at hst
        obtain ⟨x, hx⟩ : ∃ x, (s[j]'hjs).toNat = x := ⟨_, rfl⟩
        have hx256 : x < 256 := by rw [← hx]; exact (s[j]'hjs).toNat_lt
        have hisD : isD (s[j]'hjs) = (decide (48 ≤ x) && decide (x ≤ 57)) := by rw [← hx]; rfl
        have hdgv : dgv (s[j]'hjs) = x - 48 := by rw [← hx]; rfl
        rw [hisD, hdgv] at hst
        obtain ⟨X, hX⟩ : ∃ X : Int, (x : Int) = X := ⟨_, rfl⟩
        have hx2 : ((s[j]'hjs).toNat : Int) = X := by rw [hx, hX]
        have hji2 : (j : Int) - (p : Int) < 19 := by omega
        have hXl : 0 ≤ X := by omega
        have hXh : X < 256 := by omega
        clear hisD hdgv hx hsc hj
        by_cases h48 : 48 ≤ x
        · have hi48 : 48 ≤ X := by omega
          by_cases h57 : x ≤ 57
          · have hi57 : X ≤ 57 := by omega
            rw [if_pos (by simp [h48, h57])] at hst
            have hV18 : V ≤ 999999999999999999 := by
              have := hVk.out
              have : 10 ^ k ≤ 10 ^ 18 := Nat.pow_le_pow_right (by omega) (by omega)
              omega
            have hm0 : 0 ≤ 10 * V := by omega
            have hm1 : 10 * V ≤ 18446744073709551615 := by omega
            have hm2 : 10 * V + (X - 48) ≤ 18446744073709551615 := by omega
            have HST : Hid (lnum (ul s) p = lsc (19 - (k + 1)) ((ul s).drop (p + (k + 1))) (10 * V + (X - 48)).toNat (k + 1)) := by
              show _ = _
              rw [hst, show 19 - (k + 1) = 18 - k by omega, show p + (k + 1) = j + 1 by have := HJ.out; omega]
              congr 1
              omega
            have HVK : Hid ((10 * V + (X - 48)).toNat < 10 ^ (k + 1)) := by
              have := hVk.out
              show _ < _
              rw [Nat.pow_succ]
              omega
            have hm3 : 0 ≤ 10 * V + (X - 48) := by omega
            clear hst hX hx256 h48 h57 hVk
            go_wp2
            go_roundg (19 - (k + 1))
            case measure => have := HG.out; omega
            case rel => exact ⟨k + 1, 10 * V + (X - 48), by have := HJ.out; omega, by omega, rfl, rfl, by have := HJ.out; congr 1; omega, hm3, HVK, HST, hB⟩
          · have hi57 : ¬ X ≤ 57 := by omega
            have HL : Hid (lnum (ul s) p = (V.toNat, k)) := hst.trans (if_neg (by simp [h57]))
            clear hst hX
            by_cases hv : 4611686018427387905 < V
            · have HR : Hid (numRV s p = .tuple #[.int .i64 4611686018427387905, .int .i64 (j : Int)]) := numRV_of HL.out (by unfold cutN; omega) (by rw [HJ.out])
              clear HL
              go_wp2
              refine bodyPost_ret (v := .tuple #[.int .i64 4611686018427387905, .int .i64 (j : Int)]) (by simp [results, Tryd.f79, go_sem]; omega) rfl ?_
              exact ⟨by rw [HR.out], hB.out⟩
            · have HR : Hid (numRV s p = .tuple #[.int .i64 V, .int .i64 (j : Int)]) := numRV_of HL.out (by unfold cutN; omega) (by rw [HJ.out])
              have hv2 : V ≤ 4611686018427387905 := by omega
              clear HL
              go_wp2
              refine bodyPost_ret (v := .tuple #[.int .i64 V, .int .i64 (j : Int)]) (by simp [results, Tryd.f79, go_sem]; omega) rfl ?_
              exact ⟨by rw [HR.out], hB.out⟩
        · have hi48 : ¬ 48 ≤ X := by omega
          have HL : Hid (lnum (ul s) p = (V.toNat, k)) := hst.trans (if_neg (by simp [h48]))
          clear hst hX
          by_cases hv : 4611686018427387905 < V
          · have HR : Hid (numRV s p = .tuple #[.int .i64 4611686018427387905, .int .i64 (j : Int)]) := numRV_of HL.out (by unfold cutN; omega) (by rw [HJ.out])
            clear HL
            go_wp2
            refine bodyPost_ret (v := .tuple #[.int .i64 4611686018427387905, .int .i64 (j : Int)]) (by simp [results, Tryd.f79, go_sem]; omega) rfl ?_
            exact ⟨by rw [HR.out], hB.out⟩
          · have HR : Hid (numRV s p = .tuple #[.int .i64 V, .int .i64 (j : Int)]) := numRV_of HL.out (by unfold cutN; omega) (by rw [HJ.out])
            have hv2 : V ≤ 4611686018427387905 := by omega
            clear HL
            go_wp2
            refine bodyPost_ret (v := .tuple #[.int .i64 V, .int .i64 (j : Int)]) (by simp [results, Tryd.f79, go_sem]; omega) rfl ?_
            exact ⟨by rw [HR.out], hB.out⟩
end Go.Proofs.YtflghlmikpfnpaaDoor.E
