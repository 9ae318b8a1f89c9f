/-
  Contracts of the small functions: ones, lead, following, fits, and the reference's follow.
-/
import Derived.Test.YtadcmljcbmfcaaaProg
import Derived.Test.YtadcmljcbmfcaaaWMath
import Derived.WalkKit
import Derived.WalkSpells
import Derived.WalkLawsBesides
import Derived.LoopTactic
import Derived.Laws.ShiftsVar
import Derived.Laws.BitsAllLaws
import Derived.Lib.Hide
namespace Go.Proofs.Ytadcmljcbmfcaaa.Wi
open Go.RowKit

/-- A slice of bytes that reads as l and lies below block B. -/
def Row (w : World) (B : Nat) (A : Option Addr) (l : List Nat) : Prop :=
  (∀ x ∈ l, x < 256) ∧ (0 < l.length → ∃ b off, A = some ⟨b, off, none⟩ ∧ b < B ∧ ∀ j, j < l.length → w.cell? ⟨b, off + j, none⟩ = some (.int .u8 ((l[j]?.getD 0 : Nat) : Int)))
theorem Row.keep {w w' : World} {B : Nat} {A : Option Addr} {l : List Nat} (h : Row w B A l) (hk : ∀ p : Addr, p.block < B → w'.cell? p = w.cell? p) : Row w' B A l :=
  ⟨h.1, fun hn => by obtain ⟨b, off, e, hb, hc⟩ := h.2 hn; exact ⟨b, off, e, hb, fun j hj => (hk _ hb).trans (hc j hj)⟩⟩
theorem Row.below {w w' : World} {B : Nat} {A : Option Addr} {l : List Nat} (h : Row w B A l) (hb : Below B w w') : Row w' B A l := h.keep fun _ hp => hb.cell hp
theorem Row.more {w : World} {B B' : Nat} {A : Option Addr} {l : List Nat} (h : Row w B A l) (hB : B ≤ B') : Row w B' A l :=
  ⟨h.1, fun hn => by obtain ⟨b, off, e, hb, hc⟩ := h.2 hn; exact ⟨b, off, e, by omega, hc⟩⟩
theorem Row.up {w w' : World} {A : Option Addr} {l : List Nat} (h : Row w w.heap.size A l) (hb : Below w.heap.size w w') : Row w' w'.heap.size A l := (h.below hb).more hb.size
theorem Row.elem {w : World} {B : Nat} {A : Option Addr} {l : List Nat} (h : Row w B A l) (j : Nat) : l[j]?.getD 0 < 256 := by
  rcases Nat.lt_or_ge j l.length with hj | hj
  · rw [List.getElem?_eq_getElem hj]; exact h.1 _ (List.getElem_mem hj)
  · rw [List.getElem?_eq_none hj]; decide
theorem Row.none_ (w : World) (B : Nat) (A : Option Addr) : Row w B A [] := ⟨by simp, fun h => absurd h (by simp)⟩

theorem ret_int {k : IntKind} {a b : Int} (h : a = b) : Ending.returned (.int k a) = .returned (.int k b) := by rw [h]
theorem ret_bool {a b : Bool} (h : a = b) : Ending.returned (.bool a) = .returned (.bool b) := by rw [h]

set_option maxRecDepth 100000 in
set_option maxHeartbeats 800000 in
theorem following_any (n : Nat) (w : World) (hn : n < 18446744073709551616) :
    Calls Try.prog 62 #[.int .u64 n] w fun e w' => e = .returned (.int .i64 (M.fol n)) ∧ w = w' := by
  obtain ⟨V, hV⟩ : ∃ V : Int, (n : Int) = V := ⟨_, rfl⟩
  have HV := Lib.hid hV
  rw [hV]
  clear hV
  have HN := Lib.hid hn
  clear hn
  go_enter Try.func62, Try.ntmps62
  go_wp2
  go_loop [3, 4] (fun _ k => ∃ (j : Nat), j ≤ 8 ∧ k = .int .i64 j ∧ Hid (M.folF n (8 - j) j = M.fol n)) (fun _ k => 8 - (intOf k).toNat)
  case atStart => exact ⟨0, by omega, rfl, rfl⟩
  case round =>
    obtain ⟨j, hj, rfl, hs⟩ := hrel
    by_cases hlt : j < 8
    · by_cases h : n < 2 ^ (7 * j + 7)
      · have HZ : Hid (M.fol n = j) := by show _ = _; rw [← hs.out]; exact M.folF_yes n _ j h (by omega)
        have hz : (V / 2 ^ (7 * j + 7) == 0) = true := by
          rw [← HV.out, show (n : Int) / 2 ^ (7 * j + 7) = ((n / 2 ^ (7 * j + 7) : Nat) : Int) by simp, Nat.div_eq_of_lt h]; rfl
        clear h
        go_wp2
        go_ret
        exact ⟨ret_int (by rw [HZ.out]), rfl⟩
      · have HZ : Hid (M.folF n (8 - (j + 1)) (j + 1) = M.fol n) := by show _ = _; rw [← hs.out, ← M.folF_no n _ j h]; congr 1; omega
        have hz : (V / 2 ^ (7 * j + 7) == 0) = false := by
          rw [← HV.out, show (n : Int) / 2 ^ (7 * j + 7) = ((n / 2 ^ (7 * j + 7) : Nat) : Int) by simp]
          have : n / 2 ^ (7 * j + 7) ≠ 0 := by
            intro e; rw [Nat.div_eq_zero_iff] at e; have := Nat.two_pow_pos (7 * j + 7); omega
          rw [beq_eq_false_iff_ne]; omega
        clear h
        go_wp2
        go_round
        case rel => exact ⟨j + 1, by omega, by go_num, HZ⟩
        case measure => simp [intOf]; omega
    · obtain rfl : j = 8 := by omega
      have HZ : Hid (M.fol n = 8) := by show _ = _; rw [← hs.out]; rfl
      go_wp2
      go_ret
      exact ⟨ret_int (by rw [HZ.out]; rfl), rfl⟩

theorem shl8 (x j : Nat) : IntKind.u8.wrap ((x : Int) * 2 ^ j) = ((x * 2 ^ j % 256 : Nat) : Int) := by
  rw [IntKind.wrap_u8', show (x : Int) * 2 ^ j = ((x * 2 ^ j : Nat) : Int) by simp]; omega

set_option maxRecDepth 100000 in
set_option maxHeartbeats 800000 in
theorem ones_any (x : Nat) (w : World) (_hx : x < 256) :
    Calls Try.prog 60 #[.int .u8 x] w fun e w' => e = .returned (.int .i64 (M.ones x)) ∧ w = w' := by
  go_enter Try.func60, Try.ntmps60
  go_wp2
  go_loop [3, 4] (fun _ k => ∃ (j : Nat), j ≤ 8 ∧ k = .int .i64 j ∧ Hid (M.onesF x (8 - j) j = M.ones x)) (fun _ k => 8 - (intOf k).toNat)
  case atStart => exact ⟨0, by omega, rfl, rfl⟩
  case round =>
    obtain ⟨j, hj, rfl, hs⟩ := hrel
    by_cases hlt : j < 8
    · have hsh := shl8 x j
      by_cases h : x * 2 ^ j % 256 < 128
      · have HZ : Hid (M.ones x = j) := by show _ = _; rw [← hs.out]; exact M.onesF_yes x _ j h (by omega)
        have hz : (x : Int) * 2 ^ j % 256 < 128 := by rw [IntKind.wrap_u8'] at hsh; rw [hsh]; omega
        clear h hsh
        go_wp2
        go_ret
        exact ⟨ret_int (by rw [HZ.out]), rfl⟩
      · have HZ : Hid (M.onesF x (8 - (j + 1)) (j + 1) = M.ones x) := by show _ = _; rw [← hs.out, ← M.onesF_no x _ j h]; congr 1; omega
        have hz : ¬ (x : Int) * 2 ^ j % 256 < 128 := by rw [IntKind.wrap_u8'] at hsh; rw [hsh]; omega
        clear h hsh
        go_wp2
        go_round
        case rel => exact ⟨j + 1, by omega, by go_num, HZ⟩
        case measure => simp [intOf]; omega
    · obtain rfl : j = 8 := by omega
      have HZ : Hid (M.ones x = 8) := by show _ = _; rw [← hs.out]; rfl
      go_wp2
      go_ret
      exact ⟨ret_int (by rw [HZ.out]; rfl), rfl⟩

theorem lead_num (k : Nat) (hk : k ≤ 8) : bits BinOp.xor IntKind.u8 IntKind.u8.max (255 / 2 ^ k) = ((M.lead k : Nat) : Int) := by
  have : ∀ k, k < 9 → bits BinOp.xor IntKind.u8 IntKind.u8.max (255 / 2 ^ k) = ((M.lead k : Nat) : Int) := by decide +kernel
  exact this k (by omega)

set_option maxRecDepth 100000 in
set_option maxHeartbeats 800000 in
theorem lead_any (k : Nat) (w : World) (hk : k ≤ 8) :
    Calls Try.prog 61 #[.int .i64 k] w fun e w' => e = .returned (.int .u8 (M.lead k)) ∧ w = w' := by
  go_enter Try.func61, Try.ntmps61
  go_wp2
  go_ret
  exact ⟨ret_int (lead_num k hk), rfl⟩

set_option maxRecDepth 100000 in
set_option maxHeartbeats 800000 in
theorem fits_any (n : Nat) (m : Int) (w : World) (hn : n < 18446744073709551616) (h0 : -9223372036854775808 ≤ m) (h1 : m < 9223372036854775808) :
    Calls Try.prog 64 #[.int .u64 n, .int .i64 m] w fun e w' => e = .returned (.bool (decide ((n : Int) ≤ m))) ∧ w = w' := by
  obtain ⟨V, hV⟩ : ∃ V : Int, (n : Int) = V := ⟨_, rfl⟩
  have h2 : 0 ≤ V := by omega
  rw [hV]
  clear hV hn
  by_cases hm : 0 ≤ m
  · have hw : IntKind.u64.wrap m = m := by rw [IntKind.wrap_u64]; omega
    go_enter Try.func64, Try.ntmps64
    go_wp2
    go_ret
    exact ⟨ret_bool rfl, rfl⟩
  · have HB : Hid (decide (V ≤ m) = false) := decide_eq_false (by omega)
    go_enter Try.func64, Try.ntmps64
    go_wp2
    go_ret
    exact ⟨ret_bool (by rw [HB.out]), rfl⟩
end Go.Proofs.Ytadcmljcbmfcaaa.Wi
