/-
  The reference's TakeOwn.
-/
import Derived.Test.YtflghlmikpfnpaaDoorRefOps
import Derived.Test.YtflghlmikpfnpaaDoorMath3
namespace Go.Proofs.YtflghlmikpfnpaaDoor
open Go.RowKit

/-- A triple of numbers. -/
def Own3 (r : Int × Int × Int) (w : World) (e : Ending) (w' : World) : Prop := e = .returned (.tuple #[.int .u64 r.1, .int .i64 r.2.1, .int .i64 r.2.2]) ∧ Below w.heap.size w w'

set_option maxRecDepth 100000 in
theorem own_arg (A : Option Addr) (c : Nat) (l : List Nat) (n a : Int) (w : World) (hr : Row w w.heap.size A l) (hl : l.length ≤ 140737488355328) (h0 : -9223372036854775808 ≤ n) (h1 : n < 9223372036854775808) (hno : ¬ (M.rightB l n = true ∧ 0 ≤ a ∧ a ≤ n)) :
    Calls Tryd.prog 89 #[.slice A l.length c, .int .i64 n, .int .i64 a] w (Own3 (M.ownV l n a) w) := by
  have HT := Lib.hid (M.ownV_arg hno)
  have HR := Lib.hid hr; clear hr
  by_cases hR : M.rightB l n = true
  · by_cases ha : a < 0
    · clear hno
      go_enter Tryd.func89, Tryd.ntmps89
      go_wp2_with (go_at_call 60; refine (rright_any _ _ l _ _ _ HR.out hl (by omega) (by omega)).mono ?_; rintro e w' ⟨rfl, rfl⟩)
      go_ret3
      exact ⟨by rw [HT.out]; rfl, Below.refl _ _⟩
    · have ha2 : n < a := by
        rcases Int.lt_or_le n a with h | h
        · exact h
        · exact absurd ⟨hR, by omega, h⟩ hno
      clear hno
      go_enter Tryd.func89, Tryd.ntmps89
      go_wp2_with (go_at_call 60; refine (rright_any _ _ l _ _ _ HR.out hl (by omega) (by omega)).mono ?_; rintro e w' ⟨rfl, rfl⟩)
      go_ret3
      exact ⟨by rw [HT.out]; rfl, Below.refl _ _⟩
  · have hR' : M.rightB l n = false := by simpa using hR
    clear hno hR
    go_enter Tryd.func89, Tryd.ntmps89
    go_wp2_with (go_at_call 60; refine (rright_any _ _ l _ _ _ HR.out hl (by omega) (by omega)).mono ?_; rintro e w' ⟨rfl, rfl⟩)
    go_ret3
    exact ⟨by rw [HT.out]; rfl, Below.refl _ _⟩

set_option maxRecDepth 100000 in
set_option maxHeartbeats 4000000 in
theorem rTakeOwn_any (A : Option Addr) (c : Nat) (l : List Nat) (n a : Int) (w : World) (hr : Row w w.heap.size A l) (hl : l.length ≤ 140737488355328) (h0 : -9223372036854775808 ≤ n) (h1 : n < 9223372036854775808) :
    Calls Tryd.prog 89 #[.slice A l.length c, .int .i64 n, .int .i64 a] w (Own3 (M.ownV l n a) w) := by
  by_cases hyes : M.rightB l n = true ∧ 0 ≤ a ∧ a ≤ n
  · obtain ⟨hR, ha0, ha1⟩ := hyes
    have hV := (M.rightB_true hR).2
    have hn2 : n ≤ 1125899906842624 := by have := hV.1; omega
    have hn8 : n.toNat ≤ 8 * l.length := by have := hV.1; omega
    clear h0 h1 hV
    obtain ⟨N, rfl⟩ : ∃ k : Nat, n = k := ⟨n.toNat, by omega⟩
    obtain ⟨a, rfl⟩ : ∃ k : Nat, a = k := ⟨a.toNat, by omega⟩
    rw [Int.toNat_natCast] at hn8
    have haN : a ≤ N := by omega
    have HR := Lib.hid hr; clear hr
    have d1 : decide ((a : Int) < 0) = false := by simp
    have d2 : decide (N < a) = false := by simp; omega
    clear ha0 ha1
    go_enter Tryd.func89, Tryd.ntmps89
    go_wp2_with (go_at_call 60; refine (rright_any _ _ l _ _ _ HR.out hl (by omega) (by omega)).mono ?_; rintro e w' ⟨rfl, rfl⟩)
    clear d1 d2
    go_loop [2, 10] (fun s t => ∃ (j P k : Nat), j ≤ N - a ∧ P ≤ N ∧ s = .int .i64 P ∧ t = .int .i64 k ∧ Hid (P = a + j ∧ k = j + 1 ∧ ∀ i, i < j → M.bitAt l (a + i) = 0)) (fun s _ => N - (intOf s).toNat)
    case atStart => exact ⟨0, a, 1, Nat.zero_le _, haN, rfl, rfl, rfl, rfl, fun i hi => by omega⟩
    case round =>
      obtain ⟨j, P, k, hj, hPN, rfl, rfl, hz⟩ := hrel
      have hk2 : k ≤ 1125899906842625 := by have := hz.out.2.1; omega
      by_cases hgo : P < N ∧ M.bitAt l P = 0
      · obtain ⟨hlt, hb0⟩ := hgo
        have hb : (((M.bitAt l P : Nat) : Int) == 0) = true := by simp [hb0]
        have HB0 := Lib.hid hb0; clear hb0
        go_wp2_with (go_at_call 83; refine (bit_any _ _ l P _ _ HR.out (by omega) hl).mono ?_; rintro e w' ⟨rfl, rfl⟩)
        go_round
        case rel => exact ⟨j + 1, P + 1, k + 1, by have := hz.out.1; omega, by omega, by go_num, by go_num, by have := hz.out.1; omega, by have := hz.out.2.1; omega, fun i hi => by
          by_cases e : i = j
          · have := HB0.out; rw [hz.out.1] at this; rw [e]; exact this
          · exact hz.out.2.2 i (by omega)⟩
        case measure => simp [intOf]; omega
      · have hstop : (P < N ∧ (((M.bitAt l P : Nat) : Int) == 0) = false) ∨ (¬ P < N) := by
          by_cases hlt : P < N
          · refine .inl ⟨hlt, ?_⟩
            have : M.bitAt l P ≠ 0 := fun e => hgo ⟨hlt, e⟩
            simp [this]
          · exact .inr hlt
        have HL : Hid (M.lead l a (N - a) = j) := M.lead_eq l a (N - a) j hj hz.out.2.2 (by
          by_cases hlt : P < N
          · exact .inr (by rw [← hz.out.1]; exact fun e => hgo ⟨hlt, e⟩)
          · exact .inl (by have := hz.out.1; omega))
        clear hgo
        by_cases hA : 63 < k
        · have HT : Hid (M.ownV l N a = (0, 0, 10)) := M.ownV_none hR haN (M.own_none HL.out (by have := hz.out.2.1; omega))
          have dA : decide ((63 : Int) < k) = true := by simp; omega
          rcases hstop with ⟨hlt, hb⟩ | hlt
          all_goals
            go_wp2_with (first
              | (go_at_call 83; refine (bit_any _ _ l P _ _ HR.out (by omega) hl).mono ?_; rintro e w' ⟨rfl, rfl⟩)
              | (go_at_call 88; refine (rTake_any _ _ l _ _ _ _ HR.out hl (by omega) (by omega)).mono ?_; rintro e w' ⟨rfl, hbel⟩))
            all_goals
              go_ret3
              exact ⟨by rw [HT.out]; rfl, hbel⟩
        · have hmin : min (k : Int) 64 = k := by omega
          have dA : decide ((63 : Int) < k) = false := by simp; omega
          by_cases hB : (N : Int) - P < k
          · have HT : Hid (M.ownV l N a = (0, 0, 10)) := M.ownV_none hR haN (M.own_none HL.out (by have := hz.out.2.1; have := hz.out.1; omega))
            have HK : Hid (takeV l N P k = (0, 10)) := (if_pos ⟨hR, by omega, by omega, by omega, by omega⟩).trans (if_pos hB)
            rcases hstop with ⟨hlt, hb⟩ | hlt
            all_goals
              go_wp2_with (first
                | (go_at_call 83; refine (bit_any _ _ l P _ _ HR.out (by omega) hl).mono ?_; rintro e w' ⟨rfl, rfl⟩)
                | (go_at_call 88; refine (rTake_any _ _ l _ _ _ _ HR.out hl (by omega) (by omega)).mono ?_; rintro e w' ⟨rfl, hbel⟩; rw [HK.out]))
              go_ret3
              exact ⟨by rw [HT.out]; rfl, hbel⟩
          · have hk0 : 1 ≤ k := by have := hz.out.2.1; omega
            have hlt : P < N := by omega
            obtain ⟨_, hb⟩ := hstop.resolve_right (fun h => h hlt)
            clear hstop
            have HK : Hid (takeV l N P k = (((M.num l P k : Nat) : Int), 0)) := (if_pos ⟨hR, by omega, by omega, by omega, by omega⟩).trans ((if_neg hB).trans (by rw [Int.toNat_natCast, Int.toNat_natCast]))
            have hone : M.bitAt l P = 1 := by have h2 := M.bitAt_lt l P; have : M.bitAt l P ≠ 0 := fun e => by rw [e] at hb; simp at hb
                                              omega
            have hge : 1 ≤ M.num l P k := by
              have := M.num_ge l P j hone (by have := hz.out.2.1; omega)
              rw [← hz.out.2.1] at this
              exact Nat.le_trans (Nat.one_le_two_pow) this
            have hlt64 := M.num_lt64 l P k
            obtain ⟨X, hX⟩ : ∃ X : Int, ((M.num l P k : Nat) : Int) = X := ⟨_, rfl⟩
            have hX1 : 1 ≤ X := by omega
            have hX2 : X < 18446744073709551616 := by omega
            rw [hX] at HK
            by_cases hC : X ≤ 4611686018427387904
            · have HT : Hid (M.ownV l N a = (X - 1, ((P + k : Nat) : Int), 0)) := by
                show _ = _
                have h3 : M.num l (a + j) (j + 1) ≤ 4611686018427387904 := by rw [← hz.out.1, ← hz.out.2.1]; omega
                rw [M.ownV_some hR haN (M.own_some HL.out (by have := hz.out.2.1; have := hz.out.1; omega) (by have := hz.out.2.1; omega) h3), ← hz.out.1, ← hz.out.2.1]
                refine Prod.ext (by show ((_ - 1 : Nat) : Int) = _; omega) (Prod.ext (by show ((a + 2 * j + 1 : Nat) : Int) = ((P + k : Nat) : Int); have := hz.out.2.1; have := hz.out.1; omega) rfl)
              have dC : decide ((4611686018427387904 : Int) < X) = false := by simp; omega
              clear hlt64 hX hone
              go_wp2_with (first
                | (go_at_call 83; refine (bit_any _ _ l P _ _ HR.out (by omega) hl).mono ?_; rintro e w' ⟨rfl, rfl⟩)
                | (go_at_call 88; refine (rTake_any _ _ l _ _ _ _ HR.out hl (by omega) (by omega)).mono ?_; rintro e w' ⟨rfl, hbel⟩; rw [HK.out]))
              go_ret3
              exact ⟨by rw [HT.out]; rfl, hbel⟩
            · have HT : Hid (M.ownV l N a = (0, 0, 10)) := M.ownV_none hR haN (M.own_none HL.out (fun ⟨_, _, h⟩ => by rw [← hz.out.1, ← hz.out.2.1] at h; omega))
              have dC : decide ((4611686018427387904 : Int) < X) = true := by simp; omega
              clear hlt64 hX hone
              go_wp2_with (first
                | (go_at_call 83; refine (bit_any _ _ l P _ _ HR.out (by omega) hl).mono ?_; rintro e w' ⟨rfl, rfl⟩)
                | (go_at_call 88; refine (rTake_any _ _ l _ _ _ _ HR.out hl (by omega) (by omega)).mono ?_; rintro e w' ⟨rfl, hbel⟩; rw [HK.out]))
              go_ret3
              exact ⟨by rw [HT.out]; rfl, hbel⟩
  · exact own_arg A c l n a w hr hl h0 h1 hyes
end Go.Proofs.YtflghlmikpfnpaaDoor
