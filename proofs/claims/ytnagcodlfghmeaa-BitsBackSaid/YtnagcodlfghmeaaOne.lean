/-
  BitsOne: the walk of the law.
-/
import Derived.Test.YtnagcodlfghmeaaReads
import Derived.Test.YtnagcodlfghmeaaMath4
namespace Go.Proofs.Ytnagcodlfghmeaa.bitsOne
open Go.RowKit

theorem take_bit (l : List Nat) (n a : Nat) (hR : M.rightB l n = true) (ha : a < n) : takeV l n a 1 = (((M.bitAt l a : Nat) : Int), 0) := by
  unfold takeV
  rw [if_pos ⟨hR, by decide, by decide, by omega, by omega⟩, if_neg (by omega)]
  refine Prod.ext ?_ rfl
  show ((M.num l (a : Int).toNat (1 : Int).toNat : Nat) : Int) = _
  rw [Int.toNat_natCast]
  show ((M.num l a (0 + 1) : Nat) : Int) = _
  rw [M.num_succ l a 0 (by decide)]
  show ((2 * 0 + M.bitAt l (a + 0) : Nat) : Int) = ((M.bitAt l a : Nat) : Int)
  simp

theorem own_cases (l : List Nat) (n a : Int) : (∃ (N a' v e : Nat), n = N ∧ a = a' ∧ a' ≤ N ∧ M.rightB l n = true ∧ M.ownN l N a' = some (v, e) ∧ M.ownV l n a = ((v : Int), (e : Int), 0)) ∨ (∃ z : Int, (z != 0) = true ∧ M.ownV l n a = (0, 0, z)) := by
  by_cases hyes : M.rightB l n = true ∧ 0 ≤ a ∧ a ≤ n
  · obtain ⟨hR, ha0, ha1⟩ := hyes
    obtain ⟨N, rfl⟩ : ∃ k : Nat, n = k := ⟨n.toNat, by omega⟩
    obtain ⟨a', rfl⟩ : ∃ k : Nat, a = k := ⟨a.toNat, by omega⟩
    cases h : M.ownN l N a' with
    | none => exact .inr ⟨10, by decide, M.ownV_none hR (by omega) h⟩
    | some p => exact .inl ⟨N, a', p.1, p.2, rfl, rfl, by omega, hR, h, M.ownV_some hR (by omega) h⟩
  · exact .inr ⟨2, by decide, M.ownV_arg hyes⟩

set_option maxRecDepth 100000 in
set_option maxHeartbeats 2000000 in
theorem walk (A : Option Addr) (c : Nat) (l : List Nat) (n a : Int) (w : World) (hr : Row w w.heap.size A l) (hl : l.length ≤ 140737488351232) (hn : -9223372036854775808 ≤ n ∧ n ≤ 9223372036854775807) (_ha : -9223372036854775808 ≤ a ∧ a ≤ 9223372036854775807) :
    Calls Try.prog 8 #[.slice A l.length c, .int .i64 n, .int .i64 a] w fun e w' => e = .returned (.bool true) ∧ Below w.heap.size w w' := by
  have HR := Lib.hid hr; clear hr
  have HN := Lib.hid hn; clear hn
  have HL := Lib.hid hl; clear hl
  clear _ha
  rcases own_cases l n a with ⟨N, a', v, e₀, rfl, rfl, haN, hRt, ho, hV⟩ | ⟨z, hz, hV⟩
  · obtain ⟨hv, he, hen, hgpos, hbits⟩ := M.own_gamma ho
    have hVal : M.Valid l N := by have := (M.rightB_true hRt).2; rwa [Int.toNat_natCast] at this
    have hN2 : N ≤ 1125899906809856 := by have := hVal.1; have := HL.out; omega
    have hN8 : N ≤ 8 * l.length := by have := hVal.1; omega
    have HV := Lib.hid hV
    have HBITS := Lib.hid hbits
    have HRT := Lib.hid hRt
    have HVLT := Lib.hid hv
    have hgi : M.Inv (M.putL [] 0 (M.gamma v)) (M.gamma v).length := by have := M.put_inv (M.gamma v) M.inv_nil (M.gamma_lt v); rwa [Nat.zero_add] at this
    have hxl : (M.putL [] 0 (M.gamma v)).length ≤ 140737488355328 := by have := hgi.len; omega
    have HXR := Lib.hid (M.rightB_nat (M.valid_of_inv hgi))
    have HXB : Hid (∀ i, M.bitAt (M.putL [] 0 (M.gamma v)) i = (M.gamma v)[i]?.getD 0) := fun i => by
      have := M.put_bits (M.gamma v) M.inv_nil (M.gamma_lt v) i
      rwa [if_neg (by omega), Nat.sub_zero] at this
    have hput := fun (w : World) => putOwn_yes none 0 [] 0 v w (Row.none_ _ _ _) (by decide) (by decide) hv
    have HPUT : Hid (∀ w, Calls Try.prog 17 #[.slice none 0 0, .int .i64 0, .int .u64 v] w (Gives (M.putL [] 0 (M.gamma v)) (M.gamma v).length w)) := fun w => by
      have := hput w
      rw [Nat.zero_add] at this
      exact this
    clear hput hV hbits hRt ho hv hgi hVal HN
    generalize M.putL [] 0 (M.gamma v) = X at *
    obtain ⟨g, hg⟩ : ∃ g, (M.gamma v).length = g := ⟨_, rfl⟩
    rw [hg] at he hgpos HBITS HXR HPUT
    have HE := Lib.hid he
    have HG := Lib.hid hg
    have q1 : (e₀ : Int) - a' = (g : Int) := by omega
    have hag : a' + g ≤ N := by omega
    clear he hg
    go_enter Try.func8, Try.ntmps8
    go_wp2_with fail
    refine (shown_any _).mono ?_
    rintro e w1 ⟨rfl, hb1⟩
    go_wp2_with fail
    have hr1 := Lib.hid ((HR.out.below hb1).more hb1.size)
    refine (takeOwn_any _ _ l _ _ _ hr1.out (by have := HL.out; omega) (by omega) (by omega)).mono ?_
    rintro e w2 ⟨rfl, hb2⟩
    rw [HV.out]
    have HB2 : Hid (Below w.heap.size w w2) := hb1.trans (hb2.mono hb1.size)
    clear hb1 hb2 hr1
    go_wp2_with fail
    refine (HPUT.out _).mono ?_
    rintro e w3 ⟨A3, c3, rfl, ho3, hb3⟩
    have HB3 : Hid (Below w.heap.size w w3) := HB2.out.trans (hb3.mono HB2.out.size)
    have HO3 := Lib.hid ho3
    clear hb3 ho3 HB2
    go_wp2
    go_loopw [14] (fun i wr => ∃ k : Nat, k ≤ g ∧ i = .int .i64 k ∧ Hid (Below w.heap.size w wr) ∧ Hid (Row wr wr.heap.size A3 X)) (fun i _ => g - (intOf i).toNat)
    case atStart => exact ⟨0, Nat.zero_le _, rfl, HB3, HO3⟩
    case round =>
      obtain ⟨k, hk, rfl, hB, hX⟩ := hrel
      by_cases hlt : k < g
      · have hT1 := take_bit l N (a' + k) HRT.out (by omega)
        have hT2 := take_bit X g k HXR.out hlt
        have hbb := HBITS.out k hlt
        rw [HXB.out k, ← hbb] at hT2
        rw [show ((a' + k : Nat) : Int) = (a' : Int) + k by omega] at hT1
        have HT1 := Lib.hid hT1
        have HT2 := Lib.hid hT2
        clear hT1 hT2 hbb
        generalize M.bitAt l (a' + k) = b at *
        go_wp2_with fail
        refine (take_any _ _ l _ _ _ _ ((HR.out.below hB.out).more hB.out.size) (by have := HL.out; omega) (by omega) (by omega)).mono ?_
        rintro e w4 ⟨rfl, hb4⟩
        rw [HT1.out]
        have HX4 := Lib.hid ((hX.out.below hb4).more hb4.size)
        have HB4 : Hid (Below w.heap.size w w4) := hB.out.trans (hb4.mono hB.out.size)
        clear hb4
        go_wp2_with fail
        refine (take_any _ _ X _ _ _ _ HX4.out hxl (by omega) (by omega)).mono ?_
        rintro e w5 ⟨rfl, hb5⟩
        rw [HT2.out]
        have HX5 := Lib.hid ((HX4.out.below hb5).more hb5.size)
        have HB5 : Hid (Below w.heap.size w w5) := HB4.out.trans (hb5.mono HB4.out.size)
        clear hb5
        go_wp2
        go_roundw
        case rel => exact ⟨k + 1, by omega, by go_num, HB5, HX5⟩
        case measure => simp [intOf]; omega
      · go_wp2
        go_ret
        exact ⟨rfl, hB.out⟩
  · have HV := Lib.hid hV; clear hV
    go_enter Try.func8, Try.ntmps8
    go_wp2_with fail
    refine (shown_any _).mono ?_
    rintro e w1 ⟨rfl, hb1⟩
    go_wp2_with fail
    have hr1 := Lib.hid ((HR.out.below hb1).more hb1.size)
    refine (takeOwn_any _ _ l _ _ _ hr1.out (by have := HL.out; omega) (by have := HN.out; omega) (by have := HN.out; omega)).mono ?_
    rintro e w2 ⟨rfl, hb2⟩
    rw [HV.out]
    have HB2 : Hid (Below w.heap.size w w2) := hb1.trans (hb2.mono hb1.size)
    clear hb1 hb2 hr1
    go_wp2
    go_ret
    exact ⟨rfl, HB2.out⟩
end Go.Proofs.Ytnagcodlfghmeaa.bitsOne
