/-
  BitsPuts: the walk of the law.
-/
import Derived.Test.YtnagcodlfghmeaaOpen
namespace Go.Proofs.Ytnagcodlfghmeaa.bitsPuts
open Go.RowKit

theorem str_nil (w : World) : (convert 22 9 (.slice none 0 0)).run Try.prog w = .ok (.string ByteArray.empty) w := run_convert_bytes_nil w 22 5 Try.underlying22 Try.underlying5 0 0 9 Try.underlying9

set_option maxRecDepth 100000 in
set_option maxHeartbeats 1000000 in
theorem walk (A : Option Addr) (c : Nat) (l : List Nat) (n v m : Int) (w : World) (hr : Row w w.heap.size A l) (hl : l.length ≤ 140737488351232) (hn : -9223372036854775808 ≤ n ∧ n ≤ 9223372036854775807) (hv : 0 ≤ v ∧ v ≤ 18446744073709551615) (_hm : -9223372036854775808 ≤ m ∧ m ≤ 9223372036854775807) :
    Calls Try.prog 3 #[.slice A l.length c, .int .i64 n, .int .u64 v, .int .i64 m] w fun e w' => e = .returned (.bool true) ∧ Below w.heap.size w w' := by
  have HR := Lib.hid hr; clear hr
  have HN := Lib.hid hn; clear hn
  have HL := Lib.hid hl; clear hl
  obtain ⟨V, rfl⟩ : ∃ V : Nat, v = V := ⟨v.toNat, by omega⟩
  have HV : Hid (V < 18446744073709551616) := by show _ < _; omega
  clear hv _hm
  by_cases hyes : M.rightB l n = true ∧ 0 ≤ m ∧ m ≤ 64 ∧ V < 2 ^ m.toNat
  · obtain ⟨hR, hm0, hm1, hvm⟩ := hyes
    have hV := M.rightB_true hR
    obtain ⟨N, rfl⟩ : ∃ N : Nat, n = N := ⟨n.toNat, by omega⟩
    obtain ⟨k, rfl⟩ : ∃ k : Nat, m = k := ⟨m.toNat, by omega⟩
    rw [Int.toNat_natCast] at hvm hV
    have HVal := Lib.hid hV.2; clear hV
    have hk : k ≤ 64 := by omega
    have HVM := Lib.hid hvm; clear hvm
    have HN2 : Hid (N ≤ 1125899906842624) := by have := HVal.out.1; have := HL.out; show _ ≤ _; omega
    clear HN hm0 hm1
    go_enter Try.func3, Try.ntmps3
    go_wp2_with fail
    refine (shown_any _).mono ?_
    rintro e w1 ⟨rfl, hb1⟩
    go_wp2_with fail
    have hr1 := (HR.out.below hb1).more hb1.size
    refine (put_yes _ _ l N V k _ hr1 (by have := HL.out; omega) HVal.out HVM.out hk).mono ?_
    rintro e w2 ⟨A2, c2, rfl, ho2, hb2⟩
    have hr2 := Lib.hid ((hr1.below hb2).more hb2.size)
    have HO2 := Lib.hid ho2; clear ho2
    have HB2 : Hid (Below w.heap.size w w2) := hb1.trans (hb2.mono hb1.size)
    clear hb1 hb2 hr1
    go_wp2_with fail
    refine (rPut_yes _ _ l N V k _ hr2.out (by have := HL.out; omega) HVal.out HVM.out hk).mono ?_
    rintro e w3 ⟨A3, c3, rfl, ho3, hb3⟩
    have hr3 := Lib.hid ((hr2.out.below hb3).more hb3.size)
    have HO3 := Lib.hid ho3
    have HO2' := Lib.hid ((HO2.out.below hb3).more hb3.size)
    have HB3 : Hid (Below w.heap.size w w3) := HB2.out.trans (hb3.mono HB2.out.size)
    clear hb3 ho3
    generalize M.putL l N (M.digs V k) = X at *
    have hs2 := run_str A2 c2 X w3 _ HO2'.out
    have hs3 := run_str A3 c3 X w3 _ HO3.out
    go_wp2_with (first
      | (go_at_call 13; refine (right_any _ _ l _ _ _ hr3.out (by have := HL.out; omega) (by have := HN2.out; omega) (by have := HN2.out; omega)).mono ?_; rintro e w' ⟨rfl, rfl⟩)
      | (go_at_call 14; refine (rright_any _ _ l _ _ _ hr3.out (by have := HL.out; omega) (by have := HN2.out; omega) (by have := HN2.out; omega)).mono ?_; rintro e w' ⟨rfl, rfl⟩))
    go_ret
    exact ⟨ret_bool (by simp), HB3.out⟩
  · have HNo := Lib.hid hyes; clear hyes
    have hs := str_nil
    go_enter Try.func3, Try.ntmps3
    go_wp2_with fail
    refine (shown_any _).mono ?_
    rintro e w1 ⟨rfl, hb1⟩
    go_wp2_with fail
    have hr1 := Lib.hid ((HR.out.below hb1).more hb1.size)
    refine (put_no _ _ l _ V _ _ hr1.out (by have := HL.out; omega) (by have := HN.out; omega) (by have := HN.out; omega) HV.out HNo.out).mono ?_
    rintro e w2 ⟨rfl, rfl⟩
    go_wp2_with fail
    refine (rPut_no _ _ l _ V _ _ hr1.out (by have := HL.out; omega) (by have := HN.out; omega) (by have := HN.out; omega) HV.out HNo.out).mono ?_
    rintro e w2 ⟨rfl, rfl⟩
    go_wp2_with (first
      | (go_at_call 13; refine (right_any _ _ l _ _ _ hr1.out (by have := HL.out; omega) (by have := HN.out; omega) (by have := HN.out; omega)).mono ?_; rintro e w' ⟨rfl, rfl⟩)
      | (go_at_call 14; refine (rright_any _ _ l _ _ _ hr1.out (by have := HL.out; omega) (by have := HN.out; omega) (by have := HN.out; omega)).mono ?_; rintro e w' ⟨rfl, rfl⟩))
    go_ret
    exact ⟨ret_bool (by simp), hb1⟩
end Go.Proofs.Ytnagcodlfghmeaa.bitsPuts
