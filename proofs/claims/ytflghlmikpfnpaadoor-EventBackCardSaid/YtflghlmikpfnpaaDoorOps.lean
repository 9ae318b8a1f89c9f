/-
  Put, Take, PutOwn of the program.
-/
import Derived.Test.YtflghlmikpfnpaaDoorLay
namespace Go.Proofs.YtflghlmikpfnpaaDoor
open Go.RowKit

/-- Bytes as a string. -/
def strB (l : List Nat) : ByteArray := ⟨(l.map fun x : Nat => UInt8.ofNat x).toArray⟩
theorem run_str (A : Option Addr) (c : Nat) (l : List Nat) (w : World) (B : Nat) (hr : Row w B A l) : (convert 38 9 (.slice A l.length c)).run Tryd.prog w = .ok (.string (strB l)) w := by
  by_cases h0 : l.length = 0
  · obtain rfl : l = [] := List.eq_nil_of_length_eq_zero h0
    cases A with
    | none => exact run_convert_bytes_nil w 38 5 Tryd.underlying38 Tryd.underlying5 0 c 9 Tryd.underlying9
    | some a =>
      rw [List.length_nil, run_convert_bytes_string w 38 9 5 _ 0 c Tryd.underlying38 Tryd.underlying5 Tryd.underlying9]
      exact run_bytesToString w a 0 c [] (by simpa using run_loadCells_list (P := Tryd.prog) w a [] (by simp))
  · obtain ⟨b, off, rfl, hb, hc⟩ := hr.2 (by omega)
    have := run_convert_bytes_arg (P := Tryd.prog) w 38 5 Tryd.underlying38 Tryd.underlying5 b off l.length c (l.map fun x : Nat => (x : Int)) (by simp) (fun i hi => by
      rw [hc i hi]; simp [hi]) 9 Tryd.underlying9
    rw [this]
    unfold strOfNums strB
    rw [List.map_map]
    rfl

/-- What Put and PutOwn answer: bytes in new memory. -/
def Gives (l : List Nat) (n : Nat) (w : World) (e : Ending) (w' : World) : Prop :=
  ∃ A c, e = .returned (.tuple #[.slice A l.length c, .int .i64 (n : Int), .int .i64 0]) ∧ Row w' w'.heap.size A l ∧ Below w.heap.size w w'

theorem lay_any (A : Option Addr) (c : Nat) (l : List Nat) (n v m : Nat) (w : World) (hr : Row w w.heap.size A l) (hlen : l.length = (n + 7) / 8) (hl : l.length ≤ 140737488355328) (hv : v < 18446744073709551616) (hm : m ≤ 200) :
    Calls Tryd.prog 81 #[.slice A l.length c, .int .i64 n, .int .u64 v, .int .i64 m] w fun e W' =>
      ∃ A' c', e = .returned (.tuple #[.slice A' (M.putL l n (M.digs v m)).length c', .int .i64 ((n + m : Nat) : Int)]) ∧ Row W' W'.heap.size A' (M.putL l n (M.digs v m)) ∧ Below w.heap.size w W' := by
  refine (callsIn_wide.1 (lay_in A c l n v m ((n + m + 7) / 8) w hr hlen hl hv hm rfl)).mono ?_
  rintro e W' ⟨rfl, hb, hB⟩
  have e1 : (M.putL l n (M.digs v m)).length = (n + m + 7) / 8 := by rw [M.putL_length l n _ hlen, M.digs_length]
  exact ⟨_, (n + m + 7) / 8, by rw [e1], hb.row (M.putL_lt l n _ hr.1 (M.digs_lt v m)) hb.lt, hB⟩

theorem shr_zero (v m : Nat) (hv : v < 18446744073709551616) : ((v : Int) / 2 ^ min m 64 != 0) = !decide (v < 2 ^ m) := by
  have e : (v : Int) / 2 ^ min m 64 = ((v / 2 ^ min m 64 : Nat) : Int) := by simp
  rw [e]
  have h2 : v / 2 ^ min m 64 = 0 ↔ v < 2 ^ m := by
    rw [Nat.div_eq_zero_iff]
    rcases Nat.le_total m 64 with h | h
    · rw [Nat.min_eq_left h]; have := Nat.two_pow_pos m; omega
    · rw [Nat.min_eq_right h]
      have h3 : (2:Nat) ^ 64 ≤ 2 ^ m := Nat.pow_le_pow_right (by decide) h
      have h4 : (2 : Nat) ^ 64 = 18446744073709551616 := by decide
      omega
  generalize v / 2 ^ min m 64 = d at *
  by_cases h : v < 2 ^ m
  · have := h2.2 h; subst this; simp [h]
  · have : d ≠ 0 := fun e => h (h2.1 e)
    simp [h, this]

set_option maxRecDepth 100000 in
set_option maxHeartbeats 1000000 in
theorem put_yes (A : Option Addr) (c : Nat) (l : List Nat) (n v m : Nat) (w : World) (hr : Row w w.heap.size A l) (hl : l.length ≤ 140737488355328) (hV : M.Valid l n) (hv : v < 2 ^ m) (hm : m ≤ 64) :
    Calls Tryd.prog 57 #[.slice A l.length c, .int .i64 n, .int .u64 v, .int .i64 m] w (Gives (M.putL l n (M.digs v m)) (n + m) w) := by
  have hv64 : v < 18446744073709551616 := Nat.lt_of_lt_of_le hv (Nat.pow_le_pow_right (n := 2) (by decide) hm)
  have hn2 : n ≤ 1125899906842624 := by have := hV.1; omega
  have hz := shr_zero v m hv64
  rw [decide_eq_true hv, Bool.not_true] at hz
  have hz' : ((v : Int) / 2 ^ m != 0) = false := by rwa [Nat.min_eq_left hm] at hz
  have hR := M.rightB_nat hV
  have HR := Lib.hid hr; clear hr
  have HV := Lib.hid hV; clear hV
  have HM := Lib.hid hv; clear hv
  go_enter Tryd.func57, Tryd.ntmps57
  go_wp2_with (first
    | (go_at_call 56; refine (right_any _ _ l _ _ _ HR.out hl (by omega) (by omega)).mono ?_; rintro e w' ⟨rfl, rfl⟩)
    | (go_at_call 81; refine (lay_any _ _ l n v m _ HR.out HV.out.1 hl hv64 (by omega)).mono ?_; rintro e w' ⟨A', c', rfl, hrow, hbel⟩; have HRow := Lib.hid hrow; clear hrow))
  go_ret3
  exact ⟨A', c', rfl, HRow.out, hbel⟩

set_option maxRecDepth 100000 in
set_option maxHeartbeats 1000000 in
theorem put_no (A : Option Addr) (c : Nat) (l : List Nat) (n : Int) (v : Nat) (m : Int) (w : World) (hr : Row w w.heap.size A l) (hl : l.length ≤ 140737488355328) (h0 : -9223372036854775808 ≤ n) (h1 : n < 9223372036854775808) (hv64 : v < 18446744073709551616)
    (hno : ¬ (M.rightB l n = true ∧ 0 ≤ m ∧ m ≤ 64 ∧ v < 2 ^ m.toNat)) :
    Calls Tryd.prog 57 #[.slice A l.length c, .int .i64 n, .int .u64 v, .int .i64 m] w fun e w' => e = .returned (.tuple #[.slice none 0 0, .int .i64 0, .int .i64 2]) ∧ w = w' := by
  have HR := Lib.hid hr; clear hr
  by_cases hR : M.rightB l n = true
  · by_cases hm0 : m < 0
    · clear hno
      go_enter Tryd.func57, Tryd.ntmps57
      go_wp2_with (go_at_call 56; refine (right_any _ _ l _ _ _ HR.out hl (by omega) (by omega)).mono ?_; rintro e w' ⟨rfl, rfl⟩)
      go_ret3
      exact ⟨rfl, rfl⟩
    · by_cases hm1 : 64 < m
      · clear hno
        go_enter Tryd.func57, Tryd.ntmps57
        go_wp2_with (go_at_call 56; refine (right_any _ _ l _ _ _ HR.out hl (by omega) (by omega)).mono ?_; rintro e w' ⟨rfl, rfl⟩)
        go_ret3
        exact ⟨rfl, rfl⟩
      · obtain ⟨k, rfl⟩ : ∃ k : Nat, m = k := ⟨m.toNat, by omega⟩
        have hk : k ≤ 64 := by omega
        have hn : ¬ v < 2 ^ k := fun h => hno ⟨hR, by omega, by omega, by rwa [Int.toNat_natCast]⟩
        have hz := shr_zero v k hv64
        rw [decide_eq_false hn, Bool.not_false] at hz
        have hz' : ((v : Int) / 2 ^ k != 0) = true := by rwa [Nat.min_eq_left hk] at hz
        clear hno hn
        go_enter Tryd.func57, Tryd.ntmps57
        go_wp2_with (go_at_call 56; refine (right_any _ _ l _ _ _ HR.out hl (by omega) (by omega)).mono ?_; rintro e w' ⟨rfl, rfl⟩)
        go_ret3
        exact ⟨rfl, rfl⟩
  · have hR' : M.rightB l n = false := by simpa using hR
    clear hno hR
    go_enter Tryd.func57, Tryd.ntmps57
    go_wp2_with (go_at_call 56; refine (right_any _ _ l _ _ _ HR.out hl (by omega) (by omega)).mono ?_; rintro e w' ⟨rfl, rfl⟩)
    go_ret3
    exact ⟨rfl, rfl⟩

theorem number_any (A : Option Addr) (c : Nat) (l : List Nat) (a z : Nat) (w : World) (hr : Row w w.heap.size A l) (hl : l.length ≤ 140737488355328) (haz : a ≤ z) (hz : z ≤ 8 * l.length) :
    Calls Tryd.prog 86 #[.slice A l.length c, .int .i64 a, .int .i64 z] w fun e W' => e = .returned (.int .u64 ((M.num l a (z - a) : Nat) : Int)) ∧ Below w.heap.size w W' :=
  callsIn_wide.1 (number_in Fence.wide 10 trivial trivial trivial rfl (by decide) A c l a z w hr hl haz hz)

/-- What Take answers. -/
def takeV (l : List Nat) (n a m : Int) : Int × Int :=
  if M.rightB l n = true ∧ 0 ≤ m ∧ m ≤ 64 ∧ 0 ≤ a ∧ a ≤ n then if n - a < m then (0, 10) else ((M.num l a.toNat m.toNat : Nat), 0) else (0, 2)

set_option maxRecDepth 100000 in
set_option maxHeartbeats 2000000 in
theorem take_any (A : Option Addr) (c : Nat) (l : List Nat) (n a m : Int) (w : World) (hr : Row w w.heap.size A l) (hl : l.length ≤ 140737488355328) (h0 : -9223372036854775808 ≤ n) (h1 : n < 9223372036854775808) :
    Calls Tryd.prog 63 #[.slice A l.length c, .int .i64 n, .int .i64 a, .int .i64 m] w fun e w' => e = .returned (.tuple #[.int .u64 (takeV l n a m).1, .int .i64 (takeV l n a m).2]) ∧ Below w.heap.size w w' := by
  have HR := Lib.hid hr; clear hr
  by_cases hR : M.rightB l n = true
  · by_cases hm0 : m < 0
    · have HT : Hid (takeV l n a m = (0, 2)) := if_neg (fun h => by omega)
      go_enter Tryd.func63, Tryd.ntmps63
      go_wp2_with (go_at_call 56; refine (right_any _ _ l _ _ _ HR.out hl (by omega) (by omega)).mono ?_; rintro e w' ⟨rfl, rfl⟩)
      go_ret2
      exact ⟨by rw [HT.out]; rfl, Below.refl _ _⟩
    · by_cases hm1 : 64 < m
      · have HT : Hid (takeV l n a m = (0, 2)) := if_neg (fun h => by omega)
        go_enter Tryd.func63, Tryd.ntmps63
        go_wp2_with (go_at_call 56; refine (right_any _ _ l _ _ _ HR.out hl (by omega) (by omega)).mono ?_; rintro e w' ⟨rfl, rfl⟩)
        go_ret2
        exact ⟨by rw [HT.out]; rfl, Below.refl _ _⟩
      · by_cases ha0 : a < 0
        · have HT : Hid (takeV l n a m = (0, 2)) := if_neg (fun h => by omega)
          go_enter Tryd.func63, Tryd.ntmps63
          go_wp2_with (go_at_call 56; refine (right_any _ _ l _ _ _ HR.out hl (by omega) (by omega)).mono ?_; rintro e w' ⟨rfl, rfl⟩)
          go_ret2
          exact ⟨by rw [HT.out]; rfl, Below.refl _ _⟩
        · by_cases ha1 : n < a
          · have HT : Hid (takeV l n a m = (0, 2)) := if_neg (fun h => by omega)
            go_enter Tryd.func63, Tryd.ntmps63
            go_wp2_with (go_at_call 56; refine (right_any _ _ l _ _ _ HR.out hl (by omega) (by omega)).mono ?_; rintro e w' ⟨rfl, rfl⟩)
            go_ret2
            exact ⟨by rw [HT.out]; rfl, Below.refl _ _⟩
          · have hV := (M.rightB_true hR).2
            have hn2 : n ≤ 1125899906842624 := by have := hV.1; omega
            have hn8 : n.toNat ≤ 8 * l.length := by have := hV.1; omega
            clear h0 h1 hV
            obtain ⟨N, rfl⟩ : ∃ k : Nat, n = k := ⟨n.toNat, by omega⟩
            obtain ⟨a, rfl⟩ : ∃ k : Nat, a = k := ⟨a.toNat, by omega⟩
            obtain ⟨m, rfl⟩ : ∃ k : Nat, m = k := ⟨m.toNat, by omega⟩
            rw [Int.toNat_natCast] at hn8
            by_cases hs : (N : Int) - a < m
            · have HT : Hid (takeV l N a m = (0, 10)) := (if_pos ⟨hR, by omega, by omega, by omega, by omega⟩).trans (if_pos hs)
              go_enter Tryd.func63, Tryd.ntmps63
              go_wp2_with (go_at_call 56; refine (right_any _ _ l _ _ _ HR.out hl (by omega) (by omega)).mono ?_; rintro e w' ⟨rfl, rfl⟩)
              go_ret2
              exact ⟨by rw [HT.out]; rfl, Below.refl _ _⟩
            · have HT : Hid (takeV l N a m = (((M.num l a m : Nat) : Int), 0)) := (if_pos ⟨hR, by omega, by omega, by omega, by omega⟩).trans ((if_neg hs).trans (by rw [Int.toNat_natCast, Int.toNat_natCast]))
              go_enter Tryd.func63, Tryd.ntmps63
              go_wp2_with (first
                | (go_at_call 56; refine (right_any _ _ l _ _ _ HR.out hl (by omega) (by omega)).mono ?_; rintro e w' ⟨rfl, rfl⟩)
                | (go_at_call 86; refine (number_any _ _ l a (a + m) _ HR.out hl (by omega) (by omega)).mono ?_; rintro e w' ⟨rfl, hbel⟩))
              go_ret2
              exact ⟨by rw [HT.out]; rfl, hbel⟩
  · have hR' : M.rightB l n = false := by simpa using hR
    have HT : Hid (takeV l n a m = (0, 2)) := if_neg (fun h => hR h.1)
    clear hR
    go_enter Tryd.func63, Tryd.ntmps63
    go_wp2_with (go_at_call 56; refine (right_any _ _ l _ _ _ HR.out hl (by omega) (by omega)).mono ?_; rintro e w' ⟨rfl, rfl⟩)
    go_ret2
    exact ⟨by rw [HT.out]; rfl, Below.refl _ _⟩

/-- The gamma code of v. -/
def gam (v : Nat) : List Nat := M.digs (v + 1) (2 * M.bl (v + 1) - 1)

set_option maxRecDepth 100000 in
set_option maxHeartbeats 1000000 in
theorem putOwn_yes (A : Option Addr) (c : Nat) (l : List Nat) (n v : Nat) (w : World) (hr : Row w w.heap.size A l) (hl : l.length ≤ 140737488355328) (hV : M.Valid l n) (hv : v < 4611686018427387904) :
    Calls Tryd.prog 59 #[.slice A l.length c, .int .i64 n, .int .u64 v] w (Gives (M.putL l n (gam v)) (n + (gam v).length) w) := by
  have hn2 : n ≤ 1125899906842624 := by have := hV.1; omega
  have hR := M.rightB_nat hV
  have hb : M.bl (v + 1) ≤ 64 := (M.bl_le _ 64).2 (by show _ < 18446744073709551616; omega)
  have hb0 := M.bl_pos (v + 1) (by omega)
  have HR := Lib.hid hr; clear hr
  have HV := Lib.hid hV; clear hV
  have hm : 2 * M.bl (v + 1) - 1 ≤ 200 := by omega
  have HG : Hid (gam v = M.digs (v + 1) (2 * M.bl (v + 1) - 1)) := rfl
  have HGL : Hid ((gam v).length = 2 * M.bl (v + 1) - 1) := by show _ = _; rw [HG.out, M.digs_length]
  obtain ⟨b, hbe⟩ : ∃ b, M.bl (v + 1) = b := ⟨_, rfl⟩
  obtain ⟨m, hme⟩ : ∃ m : Nat, 2 * b - 1 = m := ⟨_, rfl⟩
  obtain ⟨V, hVe⟩ : ∃ V : Int, (v : Int) = V := ⟨_, rfl⟩
  have hV1 : ((v + 1 : Nat) : Int) = V + 1 := by omega
  have hw1 := fun (w : World) => width_any (v + 1) w (by omega)
  rw [hbe] at hb hb0 hm HG HGL
  rw [hme] at hm HG HGL
  have hly := fun (w : World) (hr : Row w w.heap.size A l) => lay_any A c l n (v + 1) m w hr HV.out.1 hl (by omega) (by omega)
  simp only [hbe, hV1] at hw1
  simp only [hV1] at hly
  rw [← HG.out] at hly
  have HW1 := Lib.hid hw1; clear hw1
  have HLY := Lib.hid hly; clear hly
  have hV0 : 0 ≤ V := by omega
  have hV2 : V < 4611686018427387904 := by omega
  have hm2 : 2 * (b : Int) - 1 = (m : Int) := by omega
  rw [hVe]
  rw [HGL.out]
  clear hbe hme hVe hV1 hv
  go_enter Tryd.func59, Tryd.ntmps59
  go_wp2_with (first
    | (go_at_call 56; refine (right_any _ _ l _ _ _ HR.out hl (by omega) (by omega)).mono ?_; rintro e w' ⟨rfl, rfl⟩)
    | (go_at_call 82; refine (HW1.out _).mono ?_; rintro e w' ⟨rfl, rfl⟩)
    | (go_at_call 81; refine (HLY.out _ HR.out).mono ?_; rintro e w' ⟨A', c', rfl, hrow, hbel⟩; have HRow := Lib.hid hrow; clear hrow))
  go_ret3
  exact ⟨A', c', rfl, HRow.out, hbel⟩

set_option maxRecDepth 100000 in
set_option maxHeartbeats 1000000 in
theorem putOwn_no (A : Option Addr) (c : Nat) (l : List Nat) (n : Int) (v : Int) (w : World) (hr : Row w w.heap.size A l) (hl : l.length ≤ 140737488355328) (h0 : -9223372036854775808 ≤ n) (h1 : n < 9223372036854775808)
    (hno : ¬ (M.rightB l n = true ∧ v < 4611686018427387904)) :
    Calls Tryd.prog 59 #[.slice A l.length c, .int .i64 n, .int .u64 v] w fun e w' => e = .returned (.tuple #[.slice none 0 0, .int .i64 0, .int .i64 2]) ∧ w = w' := by
  have HR := Lib.hid hr; clear hr
  by_cases hR : M.rightB l n = true
  · have hv : 4611686018427387904 ≤ v := by
      by_cases h : v < 4611686018427387904
      · exact absurd ⟨hR, h⟩ hno
      · omega
    clear hno
    go_enter Tryd.func59, Tryd.ntmps59
    go_wp2_with (go_at_call 56; refine (right_any _ _ l _ _ _ HR.out hl (by omega) (by omega)).mono ?_; rintro e w' ⟨rfl, rfl⟩)
    go_ret3
    exact ⟨rfl, rfl⟩
  · have hR' : M.rightB l n = false := by simpa using hR
    clear hno hR
    go_enter Tryd.func59, Tryd.ntmps59
    go_wp2_with (go_at_call 56; refine (right_any _ _ l _ _ _ HR.out hl (by omega) (by omega)).mono ?_; rintro e w' ⟨rfl, rfl⟩)
    go_ret3
    exact ⟨rfl, rfl⟩
end Go.Proofs.YtflghlmikpfnpaaDoor
