/-
  takeNumber, byteAt.
-/
import Derived.Test.YtccjdajneoploaaText
namespace Go.Proofs.Ytccjdajneoploaa
open Go.RowKit

theorem or_num (V : Nat) (y : Nat) (hV : V < 72057594037927936) (hy : y < 256) : bits .or .u64 ((V : Int) * 256) (y : Int) = ((V * 256 + y : Nat) : Int) := by
  rw [show (V : Int) * 256 = ((V * 256 : Nat) : Int) by omega, u64_or_nat _ _ (by omega) (by omega)]
  congr 1
  rw [Nat.mul_comm, show 256 = 2 ^ 8 from rfl, Nat.two_pow_add_eq_or_of_lt (show y < 2 ^ 8 from hy)]
/-- The number of j bytes from a place on. -/
def M.num (s : ByteArray) (a j : Nat) : Nat := M.unb 0 (((byt s).drop a).take j)
theorem num_next (s : ByteArray) (a j : Nat) (h : a + j < s.size) : M.num s a (j + 1) = M.num s a j * 256 + (s[a + j]'h).toNat := by
  unfold M.num
  have hl : j < ((byt s).drop a).length := by rw [List.length_drop, byt_length]; omega
  rw [List.take_succ_eq_append_getElem hl, M.unb_snoc]
  congr 1
  have := byt_at s (a + j) h
  rw [List.getElem?_eq_getElem (by rw [byt_length]; exact h)] at this
  injection this with this
  rw [List.getElem_drop]; exact this
theorem num_lt (s : ByteArray) (a j : Nat) (h : j ≤ 7) : M.num s a j < 72057594037927936 := by
  have h1 := M.unb_lt (((byt s).drop a).take j) (fun x hx => byt_lt s x (List.mem_of_mem_drop (List.mem_of_mem_take hx)))
  refine Nat.lt_of_lt_of_le h1 ?_
  have : (((byt s).drop a).take j).length ≤ 7 := by rw [List.length_take]; omega
  exact Nat.le_trans (Nat.pow_le_pow_right (by decide) this) (by decide)
/-- One byte more of a number, as the machine does it. -/
theorem num_step (s : ByteArray) (a j : Nat) (hj : j ≤ 7) (h : a + j < s.size) (V : Int) (hV : V = ((M.num s a j : Nat) : Int)) (y : Nat) (hy : (s[a + j]'h).toNat = y) :
    IntKind.u64.wrap (V * 256) = V * 256 ∧ bits .or .u64 (V * 256) (y : Int) = ((M.num s a (j + 1) : Nat) : Int) := by
  have hl := num_lt s a j hj
  refine ⟨by rw [IntKind.wrap_u64, hV]; omega, ?_⟩
  rw [hV, num_next s a j h, hy]
  exact or_num _ _ hl (by rw [← hy]; exact (s[a + j]'h).toNat_lt)

set_option maxRecDepth 100000 in
set_option maxHeartbeats 1600000 in
theorem takeNumber_no (s : ByteArray) (a : Nat) (w : World) (_hs : s.size ≤ 140737488355328) (ha : a ≤ s.size) (h : s.size < a + 8) :
    Calls Try.prog 31 #[.string s, .int .i64 a] w fun e w' => e = .returned (.tuple #[.int .u64 0, .int .i64 0, .bool false]) ∧ w = w' := by
  have h1 : (s.size : Int) - (a : Int) < 8 := by omega
  go_enter Try.func31, Try.ntmps31
  go_wp2
  go_ret3
  exact ⟨rfl, rfl⟩
set_option maxRecDepth 100000 in
set_option maxHeartbeats 1600000 in
theorem takeNumber_yes (s : ByteArray) (a : Nat) (w : World) (hs : s.size ≤ 140737488355328) (h : a + 8 ≤ s.size) :
    Calls Try.prog 31 #[.string s, .int .i64 a] w fun e w' => e = .returned (.tuple #[.int .u64 ((M.num s a 8 : Nat) : Int), .int .i64 ((a + 8 : Nat) : Int), .bool true]) ∧ w = w' := by
  have h1 : ¬ (s.size : Int) - (a : Int) < 8 := by omega
  go_enter Try.func31, Try.ntmps31
  go_wp2
  go_loopg [7, 14] 8 (fun k o i wr => ∃ (j : Nat) (V : Int), j ≤ 8 ∧ k = 8 - j ∧ i = .int .i64 j ∧ o = .int .u64 V ∧ Hid (V = ((M.num s a j : Nat) : Int)) ∧ wr = w)
  case atStart => exact ⟨0, 0, by omega, by omega, rfl, rfl, by show _ = _; simp [M.num, M.unb], rfl⟩
  case round =>
    obtain ⟨j, V, hj, hgk, rfl, rfl, hV, rfl⟩ := hrel
    have HGK := Lib.hid hgk; clear hgk
    by_cases hlt : j < 8
    · have haj : a + j < s.size := by omega
      obtain ⟨y, hy⟩ : ∃ y, (s[a + j]'haj).toNat = y := ⟨_, rfl⟩
      have hy256 : y < 256 := by rw [← hy]; exact (s[a + j]'haj).toNat_lt
      obtain ⟨hw, hor⟩ := num_step s a j (by omega) haj V hV.out y hy
      obtain ⟨V2, hV2⟩ : ∃ V2 : Int, ((M.num s a (j + 1) : Nat) : Int) = V2 := ⟨_, rfl⟩
      rw [hV2] at hor
      have HV2 := Lib.hid hV2
      clear hV2
      go_wp2
      go_roundg (8 - (j + 1))
      case measure => have := HGK.out; omega
      case rel => exact ⟨j + 1, V2, by omega, rfl, by go_num, rfl, HV2.out.symm, rfl⟩
    · obtain rfl : j = 8 := by omega
      go_wp2
      go_ret3
      exact ⟨by rw [← hV.out]; simp, rfl⟩
set_option maxRecDepth 100000 in
set_option maxHeartbeats 800000 in
theorem byteAt_any (s : ByteArray) (a : Nat) (w : World) : Calls Try.prog 36 #[.string s, .int .i64 a] w fun e w' => e = .returned (.int .u8 (((byt s)[a]?.getD 0 : Nat) : Int)) ∧ w = w' := by
  by_cases h : a < s.size
  · rw [byt_at s a h, Option.getD_some]
    go_enter Try.func36, Try.ntmps36
    go_wp2
    go_ret
    exact ⟨rfl, rfl⟩
  · rw [List.getElem?_eq_none (by rw [byt_length]; omega)]
    go_enter Try.func36, Try.ntmps36
    go_wp2
    go_ret
    exact ⟨rfl, rfl⟩
end Go.Proofs.Ytccjdajneoploaa
