/-
  A part's bytes: the program's layNumber, the reference's part.
-/
import Derived.Test.YtccjdajneoploaaGrow
namespace Go.Proofs.Ytccjdajneoploaa
open Go.RowKit

theorem byte_num (n i : Nat) : (n : Int) / 2 ^ (8 * i) % 256 = ((n / 256 ^ i % 256 : Nat) : Int) := by
  rw [show (n : Int) / 2 ^ (8 * i) = ((n / 2 ^ (8 * i) : Nat) : Int) by simp, ← M.p256]; simp
theorem be_take (n j : Nat) (h : j < 8) : (M.be n 8).take (j + 1) = (M.be n 8).take j ++ [n / 256 ^ (7 - j) % 256] := by
  rw [List.take_succ_eq_append_getElem (by rw [M.be_length]; exact h)]
  have := M.be_getElem n 8 j h
  rw [List.getElem?_eq_getElem (by rw [M.be_length]; exact h), Option.getD_some] at this
  rw [this]

/-- What a call that lengthens a slice of bytes leaves. -/
def Lays (l : List Nat) (base : Nat) (w : World) (e : Ending) (w' : World) : Prop := ∃ A c, e = .returned (.slice A l.length c) ∧ Gr w' base A c l ∧ Below base w w'

set_option maxRecDepth 100000 in
set_option maxHeartbeats 1600000 in
theorem layNumber_any (A : Option Addr) (c : Nat) (l : List Nat) (n base : Nat) (w : World) (hg : Gr w base A c l) (hbase : base ≤ w.heap.size) (hl : l.length ≤ 100000000000000) :
    Calls Try.prog 22 #[.slice A l.length c, .int .u64 n] w (Lays (l ++ 1 :: M.be n 8) base w) := by
  obtain ⟨V, hV⟩ : ∃ V : Int, (n : Int) = V := ⟨_, rfl⟩
  have HV := Lib.hid hV
  rw [hV]
  clear hV
  obtain ⟨A1, c1, w1, hap, hg1, hb1⟩ := hg.one 1 (by decide) 42 (by omega) hbase
  have HAP := Lib.hid hap
  have HG1 := Lib.hid hg1
  clear hap hg1 hg
  go_enter Try.func22, Try.ntmps22
  go_wp2_with (at_builtin; refine wpList_append_run rfl _ _ _ _ rfl _ _ rfl rfl HAP.out ?_)
  go_loopg [0, 9] 8 (fun k o i wr => ∃ (j : Nat) (L : List Nat) (B : Option Addr) (d : Nat), j ≤ 8 ∧ k = 8 - j ∧ i = .int .i64 j ∧ o = .slice B L.length d ∧ Hid (L = l ++ 1 :: (M.be n 8).take j) ∧ L.length ≤ 100000000000100 ∧ Hid (Gr wr base B d L) ∧ Hid (Below base w wr))
  case atStart => exact ⟨0, l ++ [1], A1, c1, by omega, by omega, rfl, by simp, by show _ = _; simp, by simp; omega, HG1, hb1⟩
  case round =>
    obtain ⟨j, L, B, d, hj, hgk, rfl, rfl, hL, hLl, hG, hB⟩ := hrel
    have HGK := Lib.hid hgk; clear hgk
    by_cases hlt : j < 8
    · obtain ⟨s, hs⟩ : ∃ s : Nat, 7 - j = s := ⟨_, rfl⟩
      have r1 : (7 : Int) - (j : Int) = (s : Int) := by omega
      have hbt := HV.out ▸ byte_num n s
      obtain ⟨y, hy⟩ : ∃ y, n / 256 ^ s % 256 = y := ⟨_, rfl⟩
      have hy256 : y < 256 := by rw [← hy]; exact Nat.mod_lt _ (by decide)
      rw [hy] at hbt
      have HN : Hid (L ++ [y] = l ++ 1 :: (M.be n 8).take (j + 1)) := by
        show _ = _
        rw [be_take n j hlt, hL.out, hs, hy]; simp
      obtain ⟨B2, d2, w2, hap2, hg2, hb2⟩ := hG.out.one y hy256 42 (by omega) (Nat.le_trans hbase hB.out.size)
      have HAP2 := Lib.hid hap2
      have HG2 := Lib.hid hg2
      have HB2 : Hid (Below base w w2) := hB.out.trans hb2
      have hs7 : s ≤ 7 := by omega
      clear hap2 hg2 hb2 hy hs
      go_wp2_with (at_builtin; refine wpList_append_run rfl _ _ _ _ rfl _ _ rfl rfl HAP2.out ?_)
      go_roundg (8 - (j + 1))
      case measure => have := HGK.out; omega
      case rel => exact ⟨j + 1, L ++ [y], B2, d2, by omega, rfl, by go_num, by simp, HN, by have := congrArg List.length hL.out; simp [M.be_length] at this ⊢; omega, HG2, HB2⟩
    · obtain rfl : j = 8 := by omega
      have HN : Hid (L = l ++ 1 :: M.be n 8) := by
        show _ = _
        rw [hL.out, List.take_of_length_le (by rw [M.be_length]; omega)]
      go_wp2
      go_ret
      refine ⟨B, d, ?_, ?_, hB.out⟩
      · rw [← HN.out]; rfl
      · rw [← HN.out]; exact hG.out
end Go.Proofs.Ytccjdajneoploaa
