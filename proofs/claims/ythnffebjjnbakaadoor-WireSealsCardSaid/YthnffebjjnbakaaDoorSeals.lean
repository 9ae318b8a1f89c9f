/-
  WireSeals: the walk of the law.
-/
import Derived.Test.YthnffebjjnbakaaDoorGate
namespace Go.Proofs.YthnffebjjnbakaaDoor
theorem opnR_form (o : Except Nat (Nat × List Nat × Nat)) : ∃ (K : Int) (S : ByteArray) (P E : Int), opnR o = .tuple #[.int .u8 K, .string S, .int .i64 P, .int .i64 E] := by
  cases o with
  | error e => exact ⟨_, _, _, _, rfl⟩
  | ok q => obtain ⟨k, b, p⟩ := q; exact ⟨_, _, _, _, rfl⟩
namespace wireSeals
open Go.RowKit

set_option maxRecDepth 100000 in
set_option maxHeartbeats 1600000 in
theorem walk (k : Int) (b s : ByteArray) (a m : Int) (w : World) (ht : Tab w) (hk : 0 ≤ k ∧ k ≤ 255) (hbl : b.size ≤ 140737488351232) (hsl : s.size ≤ 140737488351232) (ha : -9223372036854775808 ≤ a ∧ a ≤ 9223372036854775807) (hm : -9223372036854775808 ≤ m ∧ m ≤ 9223372036854775807) :
    Calls Tryd.prog 6 #[.int .u8 k, .string b, .string s, .int .i64 a, .int .i64 m] w fun e w' => e = .returned (.bool true) ∧ Below w.heap.size w w' := by
  obtain ⟨k, rfl⟩ : ∃ n : Nat, k = n := ⟨k.toNat, by omega⟩
  have hk256 : k < 256 := by omega
  obtain ⟨h, hh⟩ : ∃ h, min b.size 10000 = h := ⟨_, rfl⟩
  have hmin : (if (10000 : Int) < (b.size : Int) then (10000 : Int) else (b.size : Int)) = (h : Int) := by rw [← hh]; split <;> omega
  have hhl : h ≤ b.size := by omega
  obtain ⟨d, hd⟩ : ∃ d, b.extract 0 h = d := ⟨_, rfl⟩
  have hds : d.size ≤ 10000 := by rw [← hd, ByteArray.size_extract]; omega
  obtain ⟨K, S, P, E, hO⟩ := opnR_form (M.openV (byt s) a m)
  have ho1 := fun W (h : Tab W) => open_any s a m W (by omega) h ha.1 ha.2 hm.1 hm.2
  have ho2 := fun W => ropen_any s a m W (by omega) ha.1 ha.2 hm.1 hm.2
  rw [hO] at ho1 ho2
  have hs1 := fun W (h : Tab W) => seal_any k d W hk256 (by omega) h
  have hs2 := fun W => rseal_any k d W hk256 (by omega)
  obtain ⟨Z, hZ⟩ : ∃ Z, strB (M.sealed k (byt d)) = Z := ⟨_, rfl⟩
  rw [hZ] at hs1 hs2
  have HT := Lib.hid ht
  have HO1 := Lib.hid ho1
  have HO2 := Lib.hid ho2
  have HS1 := Lib.hid hs1
  have HS2 := Lib.hid hs2
  clear ht hk hO hZ hh hds ha hm ho1 ho2 hs1 hs2
  go_enter Tryd.func6, Tryd.ntmps6
  go_wp2_with fail
  refine (shown_any _ HT.out).mono ?_
  rintro e w1 ⟨rfl, hb1⟩
  have HT1 : Hid (Tab w1) := HT.out.up hb1
  have HB1 := Lib.hid hb1
  clear hb1
  go_wp2_with fail
  refine (HO1.out _ HT1.out).mono ?_
  rintro e w2 ⟨rfl, hb2⟩
  have HT2 : Hid (Tab w2) := HT1.out.up hb2
  have HB2 : Hid (Below w.heap.size w w2) := HB1.out.trans (hb2.mono HB1.out.size)
  clear hb2
  go_wp2_with fail
  refine (HO2.out _).mono ?_
  rintro e w3 ⟨rfl, hb3⟩
  have HT3 : Hid (Tab w3) := HT2.out.up hb3
  have HB3 : Hid (Below w.heap.size w w3) := HB2.out.trans (hb3.mono HB2.out.size)
  clear hb3
  go_wp2_with fail
  refine (HS1.out _ HT3.out).mono ?_
  rintro e w4 ⟨rfl, hb4⟩
  have HB4 : Hid (Below w.heap.size w w4) := HB3.out.trans (hb4.mono HB3.out.size)
  clear hb4
  go_wp2_with fail
  refine (HS2.out _).mono ?_
  rintro e w5 ⟨rfl, hb5⟩
  have HB5 : Hid (Below w.heap.size w w5) := HB4.out.trans (hb5.mono HB4.out.size)
  clear hb5
  go_wp2
  go_ret
  exact ⟨ret_bool (by simp), HB5.out⟩
end wireSeals
end Go.Proofs.YthnffebjjnbakaaDoor
