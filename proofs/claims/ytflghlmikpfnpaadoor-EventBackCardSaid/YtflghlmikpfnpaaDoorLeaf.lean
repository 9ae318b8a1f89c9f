/-
  Contracts of the small functions: bytesFor, bit, both Rights, size, width.
-/
import Derived.Test.YtflghlmikpfnpaaDoorProg
import Derived.Test.YtflghlmikpfnpaaDoorMath
import Derived.WalkKit
import Derived.WalkSpells
import Derived.WalkLawsBesides
import Derived.LoopTactic
import Derived.Laws.ShiftsVar
import Derived.Lib.Hide
namespace Go.Proofs.YtflghlmikpfnpaaDoor
open Go.RowKit

/-- A slice of bytes that reads as l and lies below block B. -/
def Row (w : World) (B : Nat) (A : Option Addr) (l : List Nat) : Prop :=
  (∀ x ∈ l, x < 256) ∧ (0 < l.length → ∃ b off, A = some ⟨b, off, none⟩ ∧ b < B ∧ ∀ j, j < l.length → w.cell? ⟨b, off + j, none⟩ = some (.int .u8 ((l[j]?.getD 0 : Nat) : Int)))
theorem Row.keep {w w' : World} {B : Nat} {A : Option Addr} {l : List Nat} (h : Row w B A l) (hk : ∀ p : Addr, p.block < B → w'.cell? p = w.cell? p) : Row w' B A l :=
  ⟨h.1, fun hn => by obtain ⟨b, off, e, hb, hc⟩ := h.2 hn; exact ⟨b, off, e, hb, fun j hj => (hk _ hb).trans (hc j hj)⟩⟩
theorem Row.below {w w' : World} {B : Nat} {A : Option Addr} {l : List Nat} (h : Row w B A l) (hb : Below B w w') : Row w' B A l := h.keep fun _ hp => hb.cell hp
theorem Row.more {w : World} {B B' : Nat} {A : Option Addr} {l : List Nat} (h : Row w B A l) (hB : B ≤ B') : Row w B' A l :=
  ⟨h.1, fun hn => by obtain ⟨b, off, e, hb, hc⟩ := h.2 hn; exact ⟨b, off, e, by omega, hc⟩⟩
theorem Row.elem {w : World} {B : Nat} {A : Option Addr} {l : List Nat} (h : Row w B A l) (j : Nat) : l[j]?.getD 0 < 256 := by
  rcases Nat.lt_or_ge j l.length with hj | hj
  · rw [List.getElem?_eq_getElem hj]; exact h.1 _ (List.getElem_mem hj)
  · rw [List.getElem?_eq_none hj]; decide
theorem Row.none_ (w : World) (B : Nat) (A : Option Addr) : Row w B A [] := ⟨by simp, fun h => absurd h (by simp)⟩

theorem ret_int {k : IntKind} {a b : Int} (h : a = b) : Ending.returned (.int k a) = .returned (.int k b) := by rw [h]
theorem ret_bool {a b : Bool} (h : a = b) : Ending.returned (.bool a) = .returned (.bool b) := by rw [h]

set_option maxHeartbeats 400000 in
theorem bytesFor_any (n : Int) (w : World) (h0 : 0 ≤ n) (h1 : n < 9223372036854775808) :
    Calls Tryd.prog 80 #[.int .i64 n] w fun e w' => e = .returned (.int .i64 ((n + 7) / 8)) ∧ w = w' := by
  by_cases h8 : n % 8 = 0
  · have hb : (n % 8 == 0) = true := by simp [h8]
    have H8 := Lib.hid h8; clear h8
    go_enter Tryd.func80, Tryd.ntmps80
    go_wp2
    go_ret
    exact ⟨ret_int (by have := H8.out; omega), rfl⟩
  · have hb : (n % 8 == 0) = false := by simp [h8]
    have H8 := Lib.hid h8; clear h8
    go_enter Tryd.func80, Tryd.ntmps80
    go_wp2
    go_ret
    exact ⟨ret_int (by have := H8.out; omega), rfl⟩

theorem bit_num (x i : Nat) (hx : x < 256) : bits .and .u64 (IntKind.u64.wrap ((x : Int) / 2 ^ (7 - i % 8))) 1 = ((x / 2 ^ (7 - i % 8) % 2 : Nat) : Int) := by
  have e : (x : Int) / 2 ^ (7 - i % 8) = ((x / 2 ^ (7 - i % 8) : Nat) : Int) := by simp
  have h1 : x / 2 ^ (7 - i % 8) < 256 := Nat.lt_of_le_of_lt (Nat.div_le_self _ _) hx
  rw [e]
  generalize x / 2 ^ (7 - i % 8) = y at *
  rw [IntKind.wrap_u64, Int.emod_eq_of_lt (by omega) (by omega)]
  rw [show (1 : Int) = ((1 : Nat) : Int) from rfl, u64_and_nat _ _ (by omega) (by omega), nat_mask1]

set_option maxHeartbeats 400000 in
theorem bit_big (A : Option Addr) (c : Nat) (l : List Nat) (i : Nat) (w : World) (B : Nat) (hr : Row w B A l) (hi : i < 8 * l.length) (hl : l.length ≤ 140737489403904) :
    Calls Tryd.prog 83 #[.slice A l.length c, .int .i64 i] w fun e w' => e = .returned (.int .u64 ((M.bitAt l i : Nat) : Int)) ∧ w = w' := by
  have hx := hr.elem (i / 8)
  obtain ⟨b, off, rfl, hb, hc⟩ := hr.2 (by omega)
  have hc' := hc (i / 8) (by omega)
  have HX : Hid (l[i / 8]?.getD 0 < 256) := hx
  obtain ⟨x, hxe⟩ : ∃ x, l[i / 8]?.getD 0 = x := ⟨_, rfl⟩
  have HB : Hid (M.bitAt l i = x / 2 ^ (7 - i % 8) % 2) := by unfold M.bitAt; rw [hxe]; exact rfl
  rw [hxe] at hc' hx
  clear hc hr hxe HX
  have hi' : i / 8 < l.length := by omega
  generalize l.length = len at *
  clear hi
  go_enter Tryd.func83, Tryd.ntmps83
  go_wp2
  go_ret
  exact ⟨ret_int (by rw [HB.out]; exact bit_num x i hx), rfl⟩

theorem bit_any (A : Option Addr) (c : Nat) (l : List Nat) (i : Nat) (w : World) (B : Nat) (hr : Row w B A l) (hi : i < 8 * l.length) (hl : l.length ≤ 140737488355328) :
    Calls Tryd.prog 83 #[.slice A l.length c, .int .i64 i] w fun e w' => e = .returned (.int .u64 ((M.bitAt l i : Nat) : Int)) ∧ w = w' := bit_big A c l i w B hr hi (by omega)

set_option maxHeartbeats 800000 in
theorem size_any (v : Nat) (w : World) (hv : v < 18446744073709551616) :
    Calls Tryd.prog 93 #[.int .u64 v] w fun e w' => e = .returned (.int .i64 (M.bl v)) ∧ w = w' := by
  have hb : M.bl v ≤ 64 := (M.bl_le v 64).2 hv
  go_enter Tryd.func93, Tryd.ntmps93
  go_wp2
  go_loop [0, 3] (fun a k => ∃ (u j : Nat), u < 18446744073709551616 ∧ a = .int .u64 u ∧ k = .int .i64 j ∧ j + M.bl u = M.bl v) (fun a _ => (intOf a).toNat)
  case atStart => exact ⟨v, 0, hv, rfl, rfl, by omega⟩
  case round =>
    obtain ⟨u, j, hu, rfl, rfl, hs⟩ := hrel
    by_cases h0 : 0 < u
    · have HS : Hid (j + 1 + M.bl (u / 2) = M.bl v) := by have := M.bl_half u h0; show _ = _; omega
      have hj : j ≤ 64 := by omega
      clear hs hb
      go_wp2
      go_round
      case rel => exact ⟨u / 2, j + 1, by omega, by go_num, by go_num, HS.out⟩
      case measure => simp [intOf]; omega
    · obtain rfl : u = 0 := by omega
      have HS : Hid (j = M.bl v) := by have e : M.bl 0 = 0 := rfl; rw [e] at hs; exact hs
      clear hs hb
      go_wp2
      go_ret
      exact ⟨ret_int (by rw [HS.out]), rfl⟩

set_option maxHeartbeats 800000 in
theorem width_any (v : Nat) (w : World) (hv : v < 18446744073709551616) :
    Calls Tryd.prog 82 #[.int .u64 v] w fun e w' => e = .returned (.int .i64 (M.bl v)) ∧ w = w' := by
  have hb : M.bl v ≤ 64 := (M.bl_le v 64).2 hv
  go_enter Tryd.func82, Tryd.ntmps82
  go_wp2
  go_loop [0, 3] (fun a k => ∃ (u j : Nat), u < 18446744073709551616 ∧ a = .int .u64 u ∧ k = .int .i64 j ∧ j + M.bl u = M.bl v) (fun a _ => (intOf a).toNat)
  case atStart => exact ⟨v, 0, hv, rfl, rfl, by omega⟩
  case round =>
    obtain ⟨u, j, hu, rfl, rfl, hs⟩ := hrel
    by_cases h0 : 0 < u
    · have HS : Hid (j + 1 + M.bl (u / 2) = M.bl v) := by have := M.bl_half u h0; show _ = _; omega
      have hj : j ≤ 64 := by omega
      clear hs hb
      go_wp2
      go_round
      case rel => exact ⟨u / 2, j + 1, by omega, by go_num, by go_num, HS.out⟩
      case measure => simp [intOf]; omega
    · obtain rfl : u = 0 := by omega
      have HS : Hid (j = M.bl v) := by have e : M.bl 0 = 0 := rfl; rw [e] at hs; exact hs
      clear hs hb
      go_wp2
      go_ret
      exact ⟨ret_int (by rw [HS.out]), rfl⟩

theorem shl_num (x r : Nat) : (IntKind.u8.wrap ((x : Int) * 2 ^ r) == 0) = decide (x * 2 ^ r % 256 = 0) := by
  have e : (x : Int) * 2 ^ r = ((x * 2 ^ r : Nat) : Int) := by simp
  rw [IntKind.wrap_u8', e]
  generalize x * 2 ^ r = y
  rw [Bool.eq_iff_iff]
  simp
  omega

set_option maxRecDepth 100000 in
set_option maxHeartbeats 800000 in
theorem right_any (A : Option Addr) (c : Nat) (l : List Nat) (n : Int) (w : World) (B : Nat) (hr : Row w B A l) (hl : l.length ≤ 140737488355328) (h0 : -9223372036854775808 ≤ n) (h1 : n < 9223372036854775808) :
    Calls Tryd.prog 56 #[.slice A l.length c, .int .i64 n] w fun e w' => e = .returned (.bool (M.rightB l n)) ∧ w = w' := by
  by_cases hn : n < 0
  · have HB : Hid (M.rightB l n = false) := decide_eq_false (fun h => by omega)
    go_enter Tryd.func56, Tryd.ntmps56
    go_wp2
    go_ret
    exact ⟨ret_bool (by rw [HB.out]), rfl⟩
  · have hn0 : 0 ≤ n := by omega
    clear hn
    by_cases hlen : (l.length : Int) = (n + 7) / 8
    · by_cases h8 : n % 8 = 0
      · have HB : Hid (M.rightB l n = true) := decide_eq_true ⟨hn0, by unfold M.Valid; exact ⟨by omega, fun h => absurd h (by omega)⟩⟩
        have hne : ((l.length : Int) != (n + 7) / 8) = false := by simp [hlen]
        have hb : (n % 8 == 0) = true := by simp [h8]
        clear hlen h8
        go_enter Tryd.func56, Tryd.ntmps56
        go_wp2_with (go_at_call 80; refine (bytesFor_any _ _ (by omega) (by omega)).mono ?_; rintro e w' ⟨rfl, rfl⟩)
        go_ret
        exact ⟨ret_bool (by rw [HB.out]), rfl⟩
      · have hne : ((l.length : Int) != (n + 7) / 8) = false := by simp [hlen]
        have hb : (n % 8 == 0) = false := by simp [h8]
        have hn2 : n ≤ 1125899906842624 := by omega
        clear h0 h1
        obtain ⟨m, rfl⟩ : ∃ m : Nat, n = m := ⟨n.toNat, by omega⟩
        obtain ⟨b, off, rfl, hbB, hc⟩ := hr.2 (by omega)
        have hc' := hc (m / 8) (by omega)
        have hi' : m / 8 < l.length := by omega
        have hx := hr.elem (m / 8)
        have HB : Hid (M.rightB l m = decide (l[m / 8]?.getD 0 * 2 ^ (m % 8) % 256 = 0)) := by
          show _ = _
          unfold M.rightB M.Valid
          rw [Bool.eq_iff_iff, decide_eq_true_iff, decide_eq_true_iff, Int.toNat_natCast]
          exact ⟨fun h => h.2.2 (by omega), fun h => ⟨by omega, by omega, fun _ => h⟩⟩
        obtain ⟨x, hxe⟩ : ∃ x, l[m / 8]?.getD 0 = x := ⟨_, rfl⟩
        rw [hxe] at hc' hx HB
        clear hlen h8 hc hr hxe
        generalize M.rightB l m = R at *
        generalize l.length = len at *
        go_enter Tryd.func56, Tryd.ntmps56
        go_wp2_with (go_at_call 80; refine (bytesFor_any _ _ (by omega) (by omega)).mono ?_; rintro e w' ⟨rfl, rfl⟩)
        go_ret
        exact ⟨ret_bool (by rw [HB.out]; exact shl_num x (m % 8)), rfl⟩
    · have hne : ((l.length : Int) != (n + 7) / 8) = true := by simp [hlen]
      have HB : Hid (M.rightB l n = false) := decide_eq_false (fun h => by have := h.2.1; omega)
      clear hlen
      go_enter Tryd.func56, Tryd.ntmps56
      go_wp2_with (go_at_call 80; refine (bytesFor_any _ _ (by omega) (by omega)).mono ?_; rintro e w' ⟨rfl, rfl⟩)
      go_ret
      exact ⟨ret_bool (by rw [HB.out]), rfl⟩

set_option maxRecDepth 100000 in
set_option maxHeartbeats 800000 in
theorem rright_big (A : Option Addr) (c : Nat) (l : List Nat) (n : Int) (w : World) (B : Nat) (hr : Row w B A l) (hl : l.length ≤ 140737489403904) (h0 : -9223372036854775808 ≤ n) (h1 : n < 9223372036854775808) :
    Calls Tryd.prog 60 #[.slice A l.length c, .int .i64 n] w fun e w' => e = .returned (.bool (M.rightB l n)) ∧ w = w' := by
  by_cases hn : n < 0
  · have HB : Hid (M.rightB l n = false) := decide_eq_false (fun h => by omega)
    go_enter Tryd.func60, Tryd.ntmps60
    go_wp2
    go_ret
    exact ⟨ret_bool (by rw [HB.out]), rfl⟩
  · have hn0 : 0 ≤ n := by omega
    clear hn
    have hv : M.rightB l n = true ↔ n.toNat ≤ 8 * l.length ∧ 8 * l.length - n.toNat < 8 ∧ ∀ i, n.toNat ≤ i → i < 8 * l.length → M.bitAt l i = 0 := by
      unfold M.rightB; rw [decide_eq_true_iff]; exact Iff.trans ⟨fun h => h.2, fun h => ⟨by omega, h⟩⟩ (M.valid_iff l hr.1 n.toNat)
    by_cases hg : 8 * (l.length : Int) < n
    · have HB : Hid (M.rightB l n = false) := by
        refine Bool.eq_false_iff.2 fun h => ?_
        have := (hv.1 h).1; omega
      clear hv
      go_enter Tryd.func60, Tryd.ntmps60
      go_wp2
      go_ret
      exact ⟨ret_bool (by rw [HB.out]), rfl⟩
    · by_cases hg8 : 8 ≤ 8 * (l.length : Int) - n
      · have HB : Hid (M.rightB l n = false) := by
          refine Bool.eq_false_iff.2 fun h => ?_
          have := (hv.1 h).2.1; omega
        clear hv
        go_enter Tryd.func60, Tryd.ntmps60
        go_wp2
        go_ret
        exact ⟨ret_bool (by rw [HB.out]), rfl⟩
      · have hn2 : n ≤ 1125899915231232 := by omega
        clear h0 h1
        obtain ⟨m, rfl⟩ : ∃ m : Nat, n = m := ⟨n.toNat, by omega⟩
        rw [Int.toNat_natCast] at hv
        have HV := Lib.hid hv; clear hv
        have HR := Lib.hid hr; clear hr
        go_enter Tryd.func60, Tryd.ntmps60
        go_wp2
        go_loop [5] (fun a => ∃ i : Nat, m ≤ i ∧ i ≤ 8 * l.length ∧ a = .int .i64 i ∧ Hid (∀ j, m ≤ j → j < i → M.bitAt l j = 0)) (fun a => 8 * l.length - (intOf a).toNat)
        case atStart => exact ⟨m, Nat.le_refl _, by omega, rfl, fun j h1 h2 => by omega⟩
        case round =>
          obtain ⟨i, hi, hi2, rfl, hz⟩ := hrel
          by_cases hlt : i < 8 * l.length
          · by_cases hb : M.bitAt l i = 0
            · have hb' : (((M.bitAt l i : Nat) : Int) != 0) = false := by simp [hb]
              have HB := Lib.hid hb; clear hb
              go_wp2_with (go_at_call 83; refine (bit_big _ _ l i _ _ HR.out hlt hl).mono ?_; rintro e w' ⟨rfl, rfl⟩)
              go_round
              case rel => exact ⟨i + 1, by omega, by omega, by go_num, fun j h1 h2 => by
                by_cases e : j = i
                · rw [e]; exact HB.out
                · exact hz.out j h1 (by omega)⟩
              case measure => simp [intOf]; omega
            · have hb' : (((M.bitAt l i : Nat) : Int) != 0) = true := by simp [hb]
              have HB : Hid (M.rightB l m = false) := by
                refine Bool.eq_false_iff.2 fun h => ?_
                exact hb ((HV.out.1 h).2.2 i hi hlt)
              clear hb
              go_wp2_with (go_at_call 83; refine (bit_big _ _ l i _ _ HR.out hlt hl).mono ?_; rintro e w' ⟨rfl, rfl⟩)
              go_ret
              exact ⟨ret_bool (by rw [HB.out]), rfl⟩
          · have HB : Hid (M.rightB l m = true) := HV.out.2 ⟨by omega, by omega, fun j h1 h2 => hz.out j h1 (by omega)⟩
            go_wp2
            go_ret
            exact ⟨ret_bool (by rw [HB.out]), rfl⟩
theorem rright_any (A : Option Addr) (c : Nat) (l : List Nat) (n : Int) (w : World) (B : Nat) (hr : Row w B A l) (hl : l.length ≤ 140737488355328) (h0 : -9223372036854775808 ≤ n) (h1 : n < 9223372036854775808) :
    Calls Tryd.prog 60 #[.slice A l.length c, .int .i64 n] w fun e w' => e = .returned (.bool (M.rightB l n)) ∧ w = w' := rright_big A c l n w B hr (by omega) h0 h1

end Go.Proofs.YtflghlmikpfnpaaDoor
