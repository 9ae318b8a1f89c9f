/-
  BitsJoin: the walk of the law.
-/
import Derived.Test.YtnagcodlfghmeaaPuts
import Derived.Test.YtnagcodlfghmeaaMath2
namespace Go.Proofs.Ytnagcodlfghmeaa.bitsJoin
open Go.RowKit

/-- Put, of whatever: bytes, or the error. -/
theorem put_all (A : Option Addr) (c : Nat) (l : List Nat) (n : Int) (v : Nat) (m : Int) (w : World) (hr : Row w w.heap.size A l) (hl : l.length ≤ 140737488355328) (h0 : -9223372036854775808 ≤ n) (h1 : n < 9223372036854775808) (hv64 : v < 18446744073709551616) :
    Calls Try.prog 11 #[.slice A l.length c, .int .i64 n, .int .u64 v, .int .i64 m] w fun e w' =>
      (e = .returned (.tuple #[.slice none 0 0, .int .i64 0, .int .i64 2]) ∧ w = w') ∨ (M.rightB l n = true ∧ 0 ≤ m ∧ m ≤ 64 ∧ v < 2 ^ m.toNat ∧ Gives (M.putL l n.toNat (M.digs v m.toNat)) (n.toNat + m.toNat) w e w') := by
  by_cases hyes : M.rightB l n = true ∧ 0 ≤ m ∧ m ≤ 64 ∧ v < 2 ^ m.toNat
  · obtain ⟨hR, hm0, hm1, hvm⟩ := hyes
    have hV := M.rightB_true hR
    obtain ⟨N, rfl⟩ : ∃ N : Nat, n = N := ⟨n.toNat, by omega⟩
    obtain ⟨k, rfl⟩ : ∃ k : Nat, m = k := ⟨m.toNat, by omega⟩
    rw [Int.toNat_natCast] at hvm hV
    refine (put_yes A c l N v k w hr hl hV.2 hvm (by omega)).mono fun e w' h => .inr ⟨hR, hm0, hm1, ?_, ?_⟩
    · rw [Int.toNat_natCast]; exact hvm
    · rw [Int.toNat_natCast, Int.toNat_natCast]; exact h
  · exact (put_no A c l n v m w hr hl h0 h1 hv64 hyes).mono fun e w' h => .inl h

theorem join_num (v u x : Nat) (hx : x ≤ 64) (hv : v * 2 ^ x + u < 18446744073709551616) (hu : u < 2 ^ x) : bits .or .u64 (IntKind.u64.wrap ((v : Int) * 2 ^ x)) (u : Int) = ((v * 2 ^ x + u : Nat) : Int) := by
  have e : IntKind.u64.wrap ((v : Int) * 2 ^ x) = ((v * 2 ^ x : Nat) : Int) := by
    rw [IntKind.wrap_u64, show (v : Int) * 2 ^ x = ((v * 2 ^ x : Nat) : Int) by simp]
    generalize v * 2 ^ x = y at *
    omega
  have h64 : u < 18446744073709551616 := Nat.lt_of_lt_of_le hu (Nat.pow_le_pow_right (n := 2) (by decide) hx)
  rw [e, u64_or_nat _ _ (by generalize v * 2 ^ x = y at *; omega) h64, nat_join x _ _ (Nat.mul_mod_left _ _) hu]

theorem all_lt (v u w x : Nat) (hv : v < 2 ^ w) (hu : u < 2 ^ x) : v * 2 ^ x + u < 2 ^ (w + x) := by
  rw [Nat.pow_add]
  have h1 : (v + 1) * 2 ^ x ≤ 2 ^ w * 2 ^ x := Nat.mul_le_mul_right _ hv
  rw [Nat.add_mul, Nat.one_mul] at h1
  omega

set_option maxRecDepth 100000 in
set_option maxHeartbeats 2000000 in
theorem walk (A : Option Addr) (c : Nat) (l : List Nat) (n v u m x : Int) (w : World) (hr : Row w w.heap.size A l) (hl : l.length ≤ 140737488351232) (hn : -9223372036854775808 ≤ n ∧ n ≤ 9223372036854775807) (hv : 0 ≤ v ∧ v ≤ 18446744073709551615) (hu : 0 ≤ u ∧ u ≤ 18446744073709551615)
    (hm : -9223372036854775808 ≤ m ∧ m ≤ 9223372036854775807) (hx : -9223372036854775808 ≤ x ∧ x ≤ 9223372036854775807) :
    Calls Try.prog 9 #[.slice A l.length c, .int .i64 n, .int .u64 v, .int .u64 u, .int .i64 m, .int .i64 x] w fun e w' => e = .returned (.bool true) ∧ Below w.heap.size w w' := by
  have HR := Lib.hid hr; clear hr
  have HN := Lib.hid hn; clear hn
  have HL := Lib.hid hl; clear hl
  obtain ⟨V, rfl⟩ : ∃ V : Nat, v = V := ⟨v.toNat, by omega⟩
  obtain ⟨U, rfl⟩ : ∃ U : Nat, u = U := ⟨u.toNat, by omega⟩
  have HV : Hid (V < 18446744073709551616) := by show _ < _; omega
  have HU : Hid (U < 18446744073709551616) := by show _ < _; omega
  clear hv hu
  by_cases hin : 0 ≤ m ∧ 0 ≤ x ∧ m ≤ 64 ∧ x ≤ 64 - m
  · obtain ⟨hm0, hx0, hm1, hx1⟩ := hin
    clear hm hx
    obtain ⟨k, rfl⟩ : ∃ k : Nat, m = k := ⟨m.toNat, by omega⟩
    obtain ⟨j, rfl⟩ : ∃ k : Nat, x = k := ⟨x.toNat, by omega⟩
    have hkj : k + j ≤ 64 := by omega
    have d1 : decide ((k : Int) < 0) = false := by simp
    have d2 : decide ((j : Int) < 0) = false := by simp
    have d3 : decide ((64 : Int) < k) = false := by simp; omega
    have d4 : decide ((64 : Int) - k < j) = false := by simp; omega
    go_enter Try.func9, Try.ntmps9
    go_wp2_with fail
    refine (shown_any _).mono ?_
    rintro e w1 ⟨rfl, hb1⟩
    go_wp2_with fail
    have hr1 := Lib.hid ((HR.out.below hb1).more hb1.size)
    have HB1 := Lib.hid hb1; clear hb1
    clear hm0 hx0 hm1 hx1
    refine (put_all _ _ l _ V k _ hr1.out (by have := HL.out; omega) (by have := HN.out; omega) (by have := HN.out; omega) HV.out).mono ?_
    rintro e w2 (⟨rfl, rfl⟩ | ⟨hR, _, _, hvm, A2, c2, rfl, ho2, hb2⟩)
    · go_wp2_with fail
      refine (put_all none 0 [] 0 U j _ (Row.none_ _ _ _) (by decide) (by decide) (by decide) HU.out).mono ?_
      rintro e w3 (⟨rfl, rfl⟩ | ⟨_, _, _, _, A3, c3, rfl, ho3, hb3⟩)
      · go_wp2
        go_ret
        exact ⟨rfl, HB1.out⟩
      · have HO3 := Lib.hid ho3; clear ho3
        have HB3 : Hid (Below w.heap.size w w3) := HB1.out.trans (hb3.mono HB1.out.size)
        clear hb3
        go_wp2
        go_ret
        exact ⟨rfl, HB3.out⟩
    · have hV := M.rightB_true hR
      obtain ⟨N, rfl⟩ : ∃ N : Nat, n = N := ⟨n.toNat, by omega⟩
      rw [Int.toNat_natCast] at hV hvm
      rw [Int.toNat_natCast, Int.toNat_natCast] at ho2 ⊢
      have HVal := Lib.hid hV.2; clear hV
      have HVM := Lib.hid hvm; clear hvm
      have HN2 : Hid (N ≤ 1125899906809856) := by have := HVal.out.1; have := HL.out; show _ ≤ _; omega
      have hr2 := Lib.hid ((hr1.out.below hb2).more hb2.size)
      have HB2 : Hid (Below w.heap.size w w2) := HB1.out.trans (hb2.mono HB1.out.size)
      have HO2 := Lib.hid ho2; clear ho2 hb2 HN hR
      have HX : Hid (M.Valid (M.putL l N (M.digs V k)) (N + k)) := by
        have := M.put_valid (M.digs V k) HR.out.1 HVal.out (M.digs_lt V k); rwa [M.digs_length] at this
      have HXL : Hid ((M.putL l N (M.digs V k)).length ≤ 140737488355328) := by have := HX.out.1; have := HN2.out; show _ ≤ _; omega
      go_wp2_with fail
      refine (put_all A2 c2 (M.putL l N (M.digs V k)) ((N + k : Nat) : Int) U j _ HO2.out HXL.out (by have := HN2.out; omega) (by have := HN2.out; omega) HU.out).mono ?_
      rintro e w3 (⟨rfl, rfl⟩ | ⟨_, _, _, hum, A3, c3, rfl, ho3, hb3⟩)
      · go_wp2
        go_ret
        exact ⟨rfl, HB2.out⟩
      · rw [Int.toNat_natCast] at hum
        rw [Int.toNat_natCast, Int.toNat_natCast] at ho3 ⊢
        have HUM := Lib.hid hum; clear hum
        have hr3 := Lib.hid ((hr2.out.below hb3).more hb3.size)
        have HB3 : Hid (Below w.heap.size w w3) := HB2.out.trans (hb3.mono HB2.out.size)
        have HO3 := Lib.hid ho3; clear ho3 hb3
        have HALL : Hid (V * 2 ^ j + U < 2 ^ (k + j)) := all_lt V U k j HVM.out HUM.out
        have HALL64 : Hid (V * 2 ^ j + U < 18446744073709551616) := Nat.lt_of_lt_of_le HALL.out (Nat.pow_le_pow_right (n := 2) (by decide) hkj)
        have HE : Hid (M.putL (M.putL l N (M.digs V k)) (N + k) (M.digs U j) = M.putL l N (M.digs (V * 2 ^ j + U) (k + j))) := by
          show _ = _
          rw [M.digs_append V U k j HUM.out, M.putL_append, M.digs_length]
        have HEN : Hid (N + k + j = N + (k + j)) := Nat.add_assoc _ _ _
        rw [HE.out] at HO3 ⊢
        have hjn := join_num V U j (by omega) HALL64.out HUM.out
        have hput := put_yes A c l N (V * 2 ^ j + U) (k + j) w3 hr3.out (by have := HL.out; omega) HVal.out HALL.out hkj
        rw [show ((V * 2 ^ j + U : Nat) : Int) = (V : Int) * 2 ^ j + U by simp, show ((k + j : Nat) : Int) = (k : Int) + j by simp] at hput
        generalize M.putL l N (M.digs (V * 2 ^ j + U) (k + j)) = X at *
        have HP := Lib.hid hput; clear hput
        have d5 : ((N : Int) + k + j == (N : Int) + (k + j)) = true := by simp; omega
        have d6 : ((N : Int) + (k + j) == (N : Int) + k + j) = true := by simp; omega
        by_cases hj : j < 64
        · have hj' : decide ((j : Int) < 64) = true := by simp; omega
          go_wp2_with fail
          refine HP.out.mono ?_
          rintro e w4 ⟨A4, c4, rfl, ho4, hb4⟩
          have hs3 := run_str A3 c3 X w4 _ ((HO3.out.below hb4).more hb4.size)
          have hs4 := run_str A4 c4 X w4 _ ho4
          have HB4 : Hid (Below w.heap.size w w4) := HB3.out.trans (hb4.mono HB3.out.size)
          clear ho4 hb4
          go_wp2
          go_ret
          exact ⟨ret_bool (by simp), HB4.out⟩
        · obtain rfl : j = 64 := by omega
          obtain rfl : k = 0 := by omega
          have hV0 : V = 0 := by have := HVM.out; simpa using this
          subst hV0
          rw [show ((0 : Nat) : Int) * 2 ^ 64 + (U : Int) = U by simp] at HP
          go_wp2_with fail
          refine HP.out.mono ?_
          rintro e w4 ⟨A4, c4, rfl, ho4, hb4⟩
          have hs3 := run_str A3 c3 X w4 _ ((HO3.out.below hb4).more hb4.size)
          have hs4 := run_str A4 c4 X w4 _ ho4
          have HB4 : Hid (Below w.heap.size w w4) := HB3.out.trans (hb4.mono HB3.out.size)
          clear ho4 hb4
          go_wp2
          go_ret
          exact ⟨ret_bool (by simp), HB4.out⟩
  · by_cases h1 : m < 0
    · go_enter Try.func9, Try.ntmps9
      go_wp2_with fail
      refine (shown_any _).mono ?_
      rintro e w1 ⟨rfl, hb1⟩
      go_wp2
      go_ret
      exact ⟨rfl, hb1⟩
    · by_cases h2 : x < 0
      · go_enter Try.func9, Try.ntmps9
        go_wp2_with fail
        refine (shown_any _).mono ?_
        rintro e w1 ⟨rfl, hb1⟩
        go_wp2
        go_ret
        exact ⟨rfl, hb1⟩
      · by_cases h3 : 64 < m
        · go_enter Try.func9, Try.ntmps9
          go_wp2_with fail
          refine (shown_any _).mono ?_
          rintro e w1 ⟨rfl, hb1⟩
          go_wp2
          go_ret
          exact ⟨rfl, hb1⟩
        · have h4 : 64 - m < x := by omega
          clear hin
          go_enter Try.func9, Try.ntmps9
          go_wp2_with fail
          refine (shown_any _).mono ?_
          rintro e w1 ⟨rfl, hb1⟩
          go_wp2
          go_ret
          exact ⟨rfl, hb1⟩
end Go.Proofs.Ytnagcodlfghmeaa.bitsJoin
