/-
  BitsOwns: the reference's PutOwn, and the walk of the law.
-/
import Derived.Test.YtnagcodlfghmeaaPuts
namespace Go.Proofs.Ytnagcodlfghmeaa.bitsOwns
open Go.RowKit

theorem gam_eq (v : Nat) : M.digs 0 (M.bl (v + 1) - 1) ++ M.digs (v + 1) (M.bl (v + 1)) = gam v := by
  have h := M.bl_pos (v + 1) (by omega)
  unfold gam
  rw [show 2 * M.bl (v + 1) - 1 = (M.bl (v + 1) - 1) + M.bl (v + 1) by omega, M.digs_pad _ _ _ ((M.bl_le _ _).1 (Nat.le_refl _)), M.digs_zero]
theorem gam_put (l : List Nat) (n v : Nat) : M.putL (M.putL l n (M.digs 0 (M.bl (v + 1) - 1))) (n + (M.bl (v + 1) - 1)) (M.digs (v + 1) (M.bl (v + 1))) = M.putL l n (gam v) := by
  rw [← gam_eq, M.putL_append, M.digs_length]
theorem gam_length (v : Nat) : (gam v).length = (M.bl (v + 1) - 1) + M.bl (v + 1) := by rw [← gam_eq, List.length_append, M.digs_length, M.digs_length]

set_option maxRecDepth 100000 in
set_option maxHeartbeats 1000000 in
theorem rPutOwn_yes (A : Option Addr) (c : Nat) (l : List Nat) (n v : Nat) (w : World) (hr : Row w w.heap.size A l) (hl : l.length ≤ 140737488351232) (hV : M.Valid l n) (hv : v < 4611686018427387904) :
    Calls Try.prog 18 #[.slice A l.length c, .int .i64 n, .int .u64 v] w (Gives (M.putL l n (gam v)) (n + (gam v).length) w) := by
  have hn2 : n ≤ 1125899906842624 := by have := hV.1; omega
  have hl2 : l.length ≤ 140737488355328 := by omega
  have hR := M.rightB_nat hV
  have hb : M.bl (v + 1) ≤ 64 := (M.bl_le _ 64).2 (by show _ < 18446744073709551616; omega)
  have hb0 := M.bl_pos (v + 1) (by omega)
  have hG := gam_put l n v
  have hGL := gam_length v
  have HR := Lib.hid hr; clear hr
  have HV := Lib.hid hV; clear hV
  have hw1 := fun (w : World) => size_any (v + 1) w (by omega)
  obtain ⟨V, hVe⟩ : ∃ V : Int, (v : Int) = V := ⟨_, rfl⟩
  have hV1 : ((v + 1 : Nat) : Int) = V + 1 := by omega
  obtain ⟨b, hbe⟩ : ∃ b, M.bl (v + 1) = b := ⟨_, rfl⟩
  obtain ⟨b1, hb1e⟩ : ∃ b1, b - 1 = b1 := ⟨_, rfl⟩
  rw [hbe] at hb hb0 hG hGL
  rw [hb1e] at hG hGL
  simp only [hbe, hV1] at hw1
  have hm2 : (b : Int) - 1 = (b1 : Int) := by omega
  have hp1 := fun (w : World) (hr : Row w w.heap.size A l) => rput_any A c l n 0 b1 w hr HV.out.1 (by omega) (by decide) (by omega)
  have hlen1 : (M.putL l n (M.digs 0 b1)).length = (n + b1 + 7) / 8 := by rw [M.putL_length l n _ HV.out.1, M.digs_length]
  have hlb : (M.putL l n (M.digs 0 b1)).length ≤ 140737488355000 := by have := HV.out.1; omega
  have hp2 := fun (A' : Option Addr) (c' : Nat) (w : World) (hr : Row w w.heap.size A' (M.putL l n (M.digs 0 b1))) => rput_any A' c' (M.putL l n (M.digs 0 b1)) (n + b1) (v + 1) b w hr hlen1 hlb (by omega) (by omega)
  simp only [hV1, hG] at hp2
  have hP1 := Lib.hid hp1; clear hp1
  have hP2 := Lib.hid hp2; clear hp2
  have HW1 := Lib.hid hw1; clear hw1
  have hV0 : 0 ≤ V := by omega
  have hV2 : V < 4611686018427387904 := by omega
  rw [hVe, hGL]
  clear hbe hb1e hVe hV1 hv hG hGL hlen1 hlb
  generalize M.putL l n (M.digs 0 b1) = X at *
  generalize M.putL l n (gam v) = Y at *
  go_enter Try.func18, Try.ntmps18
  go_wp2_with fail
  refine (rright_any _ _ l _ _ _ HR.out hl2 (by omega) (by omega)).mono ?_
  rintro e w' ⟨rfl, rfl⟩
  go_wp2_with (go_at_call 22; refine (HW1.out _).mono ?_; rintro e w' ⟨rfl, rfl⟩)
  refine (hP1.out _ HR.out).mono ?_
  rintro e w1 ⟨A1, c1, rfl, hr1, hb1⟩
  have HR1 := Lib.hid hr1; clear hr1
  have HB1 := Lib.hid hb1; clear hb1
  go_wp2_with fail
  refine (hP2.out A1 c1 _ HR1.out).mono ?_
  rintro e w2 ⟨A2, c2, rfl, hr2, hb2⟩
  have HR2 := Lib.hid hr2; clear hr2
  have HB2 : Hid (Below w.heap.size w w2) := HB1.out.trans (hb2.mono HB1.out.size)
  clear hb2
  go_wp2
  go_ret3
  exact ⟨A2, c2, by rw [← Nat.add_assoc]; rfl, HR2.out, HB2.out⟩

set_option maxRecDepth 100000 in
set_option maxHeartbeats 1000000 in
theorem rPutOwn_no (A : Option Addr) (c : Nat) (l : List Nat) (n : Int) (v : Int) (w : World) (hr : Row w w.heap.size A l) (hl : l.length ≤ 140737488355328) (h0 : -9223372036854775808 ≤ n) (h1 : n < 9223372036854775808)
    (hno : ¬ (M.rightB l n = true ∧ v < 4611686018427387904)) :
    Calls Try.prog 18 #[.slice A l.length c, .int .i64 n, .int .u64 v] w fun e w' => e = .returned (.tuple #[.slice none 0 0, .int .i64 0, .int .i64 2]) ∧ w = w' := by
  have HR := Lib.hid hr; clear hr
  by_cases hR : M.rightB l n = true
  · have hv : 4611686018427387904 ≤ v := by
      by_cases h : v < 4611686018427387904
      · exact absurd ⟨hR, h⟩ hno
      · omega
    clear hno
    go_enter Try.func18, Try.ntmps18
    go_wp2_with (go_at_call 14; refine (rright_any _ _ l _ _ _ HR.out hl (by omega) (by omega)).mono ?_; rintro e w' ⟨rfl, rfl⟩)
    go_ret3
    exact ⟨rfl, rfl⟩
  · have hR' : M.rightB l n = false := by simpa using hR
    clear hno hR
    go_enter Try.func18, Try.ntmps18
    go_wp2_with (go_at_call 14; refine (rright_any _ _ l _ _ _ HR.out hl (by omega) (by omega)).mono ?_; rintro e w' ⟨rfl, rfl⟩)
    go_ret3
    exact ⟨rfl, rfl⟩

set_option maxRecDepth 100000 in
set_option maxHeartbeats 1000000 in
theorem walk (A : Option Addr) (c : Nat) (l : List Nat) (n v : Int) (w : World) (hr : Row w w.heap.size A l) (hl : l.length ≤ 140737488351232) (hn : -9223372036854775808 ≤ n ∧ n ≤ 9223372036854775807) (hv : 0 ≤ v ∧ v ≤ 18446744073709551615) :
    Calls Try.prog 5 #[.slice A l.length c, .int .i64 n, .int .u64 v] w fun e w' => e = .returned (.bool true) ∧ Below w.heap.size w w' := by
  have HR := Lib.hid hr; clear hr
  have HN := Lib.hid hn; clear hn
  have HL := Lib.hid hl; clear hl
  by_cases hyes : M.rightB l n = true ∧ v < 4611686018427387904
  · obtain ⟨hR, hvm⟩ := hyes
    have hV := M.rightB_true hR
    obtain ⟨N, rfl⟩ : ∃ N : Nat, n = N := ⟨n.toNat, by omega⟩
    obtain ⟨V, rfl⟩ : ∃ V : Nat, v = V := ⟨v.toNat, by omega⟩
    rw [Int.toNat_natCast] at hV
    have HVal := Lib.hid hV.2; clear hV
    have HVM : Hid (V < 4611686018427387904) := by show _ < _; omega
    clear hvm hv HN
    go_enter Try.func5, Try.ntmps5
    go_wp2_with fail
    refine (shown_any _).mono ?_
    rintro e w1 ⟨rfl, hb1⟩
    go_wp2_with fail
    have hr1 := (HR.out.below hb1).more hb1.size
    refine (putOwn_yes _ _ l N V _ hr1 (by have := HL.out; omega) HVal.out HVM.out).mono ?_
    rintro e w2 ⟨A2, c2, rfl, ho2, hb2⟩
    have hr2 := Lib.hid ((hr1.below hb2).more hb2.size)
    have HO2 := Lib.hid ho2; clear ho2
    have HB2 : Hid (Below w.heap.size w w2) := hb1.trans (hb2.mono hb1.size)
    clear hb1 hb2 hr1
    go_wp2_with fail
    refine (rPutOwn_yes _ _ l N V _ hr2.out HL.out HVal.out HVM.out).mono ?_
    rintro e w3 ⟨A3, c3, rfl, ho3, hb3⟩
    have HO3 := Lib.hid ho3
    have HO2' := Lib.hid ((HO2.out.below hb3).more hb3.size)
    have HB3 : Hid (Below w.heap.size w w3) := HB2.out.trans (hb3.mono HB2.out.size)
    clear hb3 ho3
    generalize M.putL l N (gam V) = X at *
    have hs2 := run_str A2 c2 X w3 _ HO2'.out
    have hs3 := run_str A3 c3 X w3 _ HO3.out
    go_wp2
    go_ret
    exact ⟨ret_bool (by simp), HB3.out⟩
  · have HNo := Lib.hid hyes; clear hyes
    have hs := bitsPuts.str_nil
    clear hv
    go_enter Try.func5, Try.ntmps5
    go_wp2_with fail
    refine (shown_any _).mono ?_
    rintro e w1 ⟨rfl, hb1⟩
    go_wp2_with fail
    have hr1 := Lib.hid ((HR.out.below hb1).more hb1.size)
    refine (putOwn_no _ _ l _ _ _ hr1.out (by have := HL.out; omega) (by have := HN.out; omega) (by have := HN.out; omega) HNo.out).mono ?_
    rintro e w2 ⟨rfl, rfl⟩
    go_wp2_with fail
    refine (rPutOwn_no _ _ l _ _ _ hr1.out (by have := HL.out; omega) (by have := HN.out; omega) (by have := HN.out; omega) HNo.out).mono ?_
    rintro e w2 ⟨rfl, rfl⟩
    go_wp2
    go_ret
    exact ⟨ret_bool (by simp), hb1⟩
end Go.Proofs.Ytnagcodlfghmeaa.bitsOwns
