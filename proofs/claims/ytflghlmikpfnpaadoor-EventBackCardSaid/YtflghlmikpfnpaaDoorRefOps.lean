/-
  Put, Take, PutOwn of the reference.
-/
import Derived.Test.YtflghlmikpfnpaaDoorRef
namespace Go.Proofs.YtflghlmikpfnpaaDoor
open Go.RowKit

set_option maxRecDepth 100000 in
set_option maxHeartbeats 1000000 in
theorem rPut_yes (A : Option Addr) (c : Nat) (l : List Nat) (n v m : Nat) (w : World) (hr : Row w w.heap.size A l) (hl : l.length ≤ 140737489403000) (hV : M.Valid l n) (hv : v < 2 ^ m) (hm : m ≤ 64) :
    Calls Tryd.prog 84 #[.slice A l.length c, .int .i64 n, .int .u64 v, .int .i64 m] w (Gives (M.putL l n (M.digs v m)) (n + m) w) := by
  have hv64 : v < 18446744073709551616 := Nat.lt_of_lt_of_le hv (Nat.pow_le_pow_right (n := 2) (by decide) hm)
  have hn2 : n ≤ 1125899915231232 := by have := hV.1; omega
  have hl2 : l.length ≤ 140737489403904 := by omega
  have hb := (M.bl_le v m).2 hv
  have hb2 : ¬ m < M.bl v := by omega
  have hR := M.rightB_nat hV
  have HR := Lib.hid hr; clear hr
  have HV := Lib.hid hV; clear hV
  have HM := Lib.hid hv; clear hv
  go_enter Tryd.func84, Tryd.ntmps84
  go_wp2_with (first
    | (go_at_call 60; refine (rright_big _ _ l _ _ _ HR.out hl2 (by omega) (by omega)).mono ?_; rintro e w' ⟨rfl, rfl⟩)
    | (go_at_call 93; refine (size_any v _ hv64).mono ?_; rintro e w' ⟨rfl, rfl⟩)
    | (go_at_call 94; refine (rput_any _ _ l n v m _ HR.out HV.out.1 hl hv64 (by omega)).mono ?_; rintro e w' ⟨A', c', rfl, hrow, hbel⟩; have HRow := Lib.hid hrow; clear hrow))
  go_ret3
  exact ⟨A', c', rfl, HRow.out, hbel⟩

set_option maxRecDepth 100000 in
set_option maxHeartbeats 1000000 in
theorem rPut_no (A : Option Addr) (c : Nat) (l : List Nat) (n : Int) (v : Nat) (m : Int) (w : World) (hr : Row w w.heap.size A l) (hl : l.length ≤ 140737488355328) (h0 : -9223372036854775808 ≤ n) (h1 : n < 9223372036854775808) (hv64 : v < 18446744073709551616)
    (hno : ¬ (M.rightB l n = true ∧ 0 ≤ m ∧ m ≤ 64 ∧ v < 2 ^ m.toNat)) :
    Calls Tryd.prog 84 #[.slice A l.length c, .int .i64 n, .int .u64 v, .int .i64 m] w fun e w' => e = .returned (.tuple #[.slice none 0 0, .int .i64 0, .int .i64 2]) ∧ w = w' := by
  have HR := Lib.hid hr; clear hr
  by_cases hR : M.rightB l n = true
  · by_cases hm0 : m < 0
    · clear hno
      go_enter Tryd.func84, Tryd.ntmps84
      go_wp2_with (go_at_call 60; refine (rright_any _ _ l _ _ _ HR.out hl (by omega) (by omega)).mono ?_; rintro e w' ⟨rfl, rfl⟩)
      go_ret3
      exact ⟨rfl, rfl⟩
    · by_cases hm1 : 64 < m
      · clear hno
        go_enter Tryd.func84, Tryd.ntmps84
        go_wp2_with (go_at_call 60; refine (rright_any _ _ l _ _ _ HR.out hl (by omega) (by omega)).mono ?_; rintro e w' ⟨rfl, rfl⟩)
        go_ret3
        exact ⟨rfl, rfl⟩
      · obtain ⟨k, rfl⟩ : ∃ k : Nat, m = k := ⟨m.toNat, by omega⟩
        have hk : k ≤ 64 := by omega
        have hn : ¬ v < 2 ^ k := fun h => hno ⟨hR, by omega, by omega, by rwa [Int.toNat_natCast]⟩
        have hz : k < M.bl v := by
          rcases Nat.lt_or_ge k (M.bl v) with h | h
          · exact h
          · exact absurd ((M.bl_le v k).1 h) hn
        clear hno hn
        go_enter Tryd.func84, Tryd.ntmps84
        go_wp2_with (first
          | (go_at_call 60; refine (rright_any _ _ l _ _ _ HR.out hl (by omega) (by omega)).mono ?_; rintro e w' ⟨rfl, rfl⟩)
          | (go_at_call 93; refine (size_any v _ hv64).mono ?_; rintro e w' ⟨rfl, rfl⟩))
        go_ret3
        exact ⟨rfl, rfl⟩
  · have hR' : M.rightB l n = false := by simpa using hR
    clear hno hR
    go_enter Tryd.func84, Tryd.ntmps84
    go_wp2_with (go_at_call 60; refine (rright_any _ _ l _ _ _ HR.out hl (by omega) (by omega)).mono ?_; rintro e w' ⟨rfl, rfl⟩)
    go_ret3
    exact ⟨rfl, rfl⟩

set_option maxRecDepth 100000 in
set_option maxHeartbeats 2000000 in
theorem rTake_any (A : Option Addr) (c : Nat) (l : List Nat) (n a m : Int) (w : World) (hr : Row w w.heap.size A l) (hl : l.length ≤ 140737488355328) (h0 : -9223372036854775808 ≤ n) (h1 : n < 9223372036854775808) :
    Calls Tryd.prog 88 #[.slice A l.length c, .int .i64 n, .int .i64 a, .int .i64 m] w fun e w' => e = .returned (.tuple #[.int .u64 (takeV l n a m).1, .int .i64 (takeV l n a m).2]) ∧ Below w.heap.size w w' := by
  have HR := Lib.hid hr; clear hr
  by_cases hR : M.rightB l n = true
  · by_cases hm0 : m < 0
    · have HT : Hid (takeV l n a m = (0, 2)) := if_neg (fun h => by omega)
      go_enter Tryd.func88, Tryd.ntmps88
      go_wp2_with (go_at_call 60; refine (rright_any _ _ l _ _ _ HR.out hl (by omega) (by omega)).mono ?_; rintro e w' ⟨rfl, rfl⟩)
      go_ret2
      exact ⟨by rw [HT.out]; rfl, Below.refl _ _⟩
    · by_cases hm1 : 64 < m
      · have HT : Hid (takeV l n a m = (0, 2)) := if_neg (fun h => by omega)
        go_enter Tryd.func88, Tryd.ntmps88
        go_wp2_with (go_at_call 60; refine (rright_any _ _ l _ _ _ HR.out hl (by omega) (by omega)).mono ?_; rintro e w' ⟨rfl, rfl⟩)
        go_ret2
        exact ⟨by rw [HT.out]; rfl, Below.refl _ _⟩
      · by_cases ha0 : a < 0
        · have HT : Hid (takeV l n a m = (0, 2)) := if_neg (fun h => by omega)
          go_enter Tryd.func88, Tryd.ntmps88
          go_wp2_with (go_at_call 60; refine (rright_any _ _ l _ _ _ HR.out hl (by omega) (by omega)).mono ?_; rintro e w' ⟨rfl, rfl⟩)
          go_ret2
          exact ⟨by rw [HT.out]; rfl, Below.refl _ _⟩
        · by_cases ha1 : n < a
          · have HT : Hid (takeV l n a m = (0, 2)) := if_neg (fun h => by omega)
            go_enter Tryd.func88, Tryd.ntmps88
            go_wp2_with (go_at_call 60; refine (rright_any _ _ l _ _ _ HR.out hl (by omega) (by omega)).mono ?_; rintro e w' ⟨rfl, rfl⟩)
            go_ret2
            exact ⟨by rw [HT.out]; rfl, Below.refl _ _⟩
          · have hV := (M.rightB_true hR).2
            have hn2 : n ≤ 1125899906842624 := by have := hV.1; omega
            have hn8 : n.toNat ≤ 8 * l.length := by have := hV.1; omega
            clear h0 h1 hV
            obtain ⟨N, rfl⟩ : ∃ k : Nat, n = k := ⟨n.toNat, by omega⟩
            obtain ⟨a, rfl⟩ : ∃ k : Nat, a = k := ⟨a.toNat, by omega⟩
            obtain ⟨m, rfl⟩ : ∃ k : Nat, m = k := ⟨m.toNat, by omega⟩
            rw [Int.toNat_natCast] at hn8
            have d1 : decide ((m : Int) < 0) = false := by simp
            have d2 : decide ((64 : Int) < m) = false := by simpa using hm1
            have d3 : decide ((a : Int) < 0) = false := by simp
            have d4 : decide (N < a) = false := by simpa using ha1
            by_cases hs : (N : Int) - a < m
            · have HT : Hid (takeV l N a m = (0, 10)) := (if_pos ⟨hR, by omega, by omega, by omega, by omega⟩).trans (if_pos hs)
              go_enter Tryd.func88, Tryd.ntmps88
              go_wp2_with (go_at_call 60; refine (rright_any _ _ l _ _ _ HR.out hl (by omega) (by omega)).mono ?_; rintro e w' ⟨rfl, rfl⟩)
              go_ret2
              exact ⟨by rw [HT.out]; rfl, Below.refl _ _⟩
            · have HT : Hid (takeV l N a m = (((M.num l a m : Nat) : Int), 0)) := (if_pos ⟨hR, by omega, by omega, by omega, by omega⟩).trans ((if_neg hs).trans (by rw [Int.toNat_natCast, Int.toNat_natCast]))
              have d5 : decide ((N : Int) - a < m) = false := by simpa using hs
              have hm64 : m ≤ 64 := by omega
              have hNam : a + m ≤ N := by omega
              go_enter Tryd.func88, Tryd.ntmps88
              go_wp2_with (go_at_call 60; refine (rright_any _ _ l _ _ _ HR.out hl (by omega) (by omega)).mono ?_; rintro e w' ⟨rfl, rfl⟩)
              clear hm0 hm1 ha0 ha1 hs d5
              go_loop [11, 12] (fun v i => ∃ k : Nat, k ≤ m ∧ i = .int .i64 k ∧ v = .int .u64 ((M.num l a k : Nat) : Int)) (fun _ i => m - (intOf i).toNat)
              case atStart => exact ⟨0, Nat.zero_le _, rfl, rfl⟩
              case round =>
                obtain ⟨k, hk, rfl, rfl⟩ := hrel
                by_cases hlt : k < m
                · have hx := M.bitAt_lt l (a + k)
                  have HO : Hid (bits .or .u64 (IntKind.u64.wrap (((M.num l a k : Nat) : Int) * 2)) ((M.bitAt l (a + k) : Nat) : Int) = ((M.num l a (k + 1) : Nat) : Int)) :=
                    or_num (M.num l a k) ⟨M.bitAt l (a + k), hx⟩ (M.num_lt64 l a k)
                  have hn64 := M.num_lt64 l a k
                  go_wp2_with (go_at_call 83; refine (bit_any _ _ l (a + k) _ _ HR.out (by omega) hl).mono ?_; rintro e w' ⟨rfl, rfl⟩)
                  go_round
                  case rel => exact ⟨k + 1, by omega, by go_num, by rw [← HO.out]⟩
                  case measure => simp [intOf]; omega
                · obtain rfl : k = m := by omega
                  go_wp2
                  go_ret2
                  exact ⟨by rw [HT.out]; rfl, Below.refl _ _⟩
  · have hR' : M.rightB l n = false := by simpa using hR
    have HT : Hid (takeV l n a m = (0, 2)) := if_neg (fun h => hR h.1)
    clear hR
    go_enter Tryd.func88, Tryd.ntmps88
    go_wp2_with (go_at_call 60; refine (rright_any _ _ l _ _ _ HR.out hl (by omega) (by omega)).mono ?_; rintro e w' ⟨rfl, rfl⟩)
    go_ret2
    exact ⟨by rw [HT.out]; rfl, Below.refl _ _⟩
end Go.Proofs.YtflghlmikpfnpaaDoor
