/-
  The reference's TakeNumber.
-/
import Derived.Test.YthnffebjjnbakaaDoorTake
namespace Go.Proofs.YthnffebjjnbakaaDoor
open Go.RowKit

theorem bit_yes (x j : Nat) (hx : x < 256) (hj : j < 8) (h : ¬ x * 2 ^ j % 256 < 128) : (bits .and .u8 ((x : Int) / 2 ^ (7 - j)) 1 == 1) = true := by
  have : ∀ j, j < 8 → ∀ x : Nat, x < 256 → ¬ x * 2 ^ j % 256 < 128 → (bits .and .u8 ((x : Int) / 2 ^ (7 - j)) 1 == 1) = true := by decide +kernel
  exact this j hj x hx h
theorem bit_no (x j : Nat) (hx : x < 256) (hj : j < 8) (h : x * 2 ^ j % 256 < 128) : (bits .and .u8 ((x : Int) / 2 ^ (7 - j)) 1 == 1) = false := by
  have : ∀ j, j < 8 → ∀ x : Nat, x < 256 → x * 2 ^ j % 256 < 128 → (bits .and .u8 ((x : Int) / 2 ^ (7 - j)) 1 == 1) = false := by decide +kernel
  exact this j hj x hx h
theorem mask_num (x k : Nat) (hx : x < 256) (hk : M.ones x = k) (hk7 : k < 7) : bits .and .u64 (x : Int) (2 ^ (7 - k) - 1) = ((x - M.lead k : Nat) : Int) := by
  subst hk
  have : ∀ x : Nat, x < 256 → M.ones x < 7 → bits .and .u64 (x : Int) (2 ^ (7 - M.ones x) - 1) = ((x - M.lead (M.ones x) : Nat) : Int) := by decide +kernel
  exact this x hx hk7
theorem rest_zero (x k : Nat) (hx : x < 256) (hk : M.ones x = k) (hk7 : ¬ k < 7) : x - M.lead k = 0 := by
  subst hk
  have : ∀ x, x < 256 → ¬ M.ones x < 7 → x - M.lead (M.ones x) = 0 := by decide +kernel
  exact this x hx hk7

set_option maxRecDepth 100000 in
set_option maxHeartbeats 1600000 in
theorem rtakeNumber_any (A : Option Addr) (c : Nat) (l : List Nat) (a : Int) (w : World) (hr : Row w w.heap.size A l) (hl : l.length ≤ 281474976710656) (ha1 : -9223372036854775808 ≤ a) (ha2 : a ≤ 9223372036854775807) :
    Calls Tryd.prog 13 #[.slice A l.length c, .int .i64 a] w fun e w' => e = .returned (numR (M.takeN l a)) ∧ Below w.heap.size w w' := by
  by_cases h0 : a < 0
  · rw [takeN_neg l a h0]
    go_enter Tryd.func13, Tryd.ntmps13
    go_wp2
    go_ret3
    exact ⟨rfl, Below.refl _ _⟩
  · by_cases h1 : (l.length : Int) ≤ a
    · rw [takeN_far l a h1]
      go_enter Tryd.func13, Tryd.ntmps13
      go_wp2
      go_ret3
      exact ⟨rfl, Below.refl _ _⟩
    · obtain ⟨a, rfl⟩ : ∃ n : Nat, a = n := ⟨a.toNat, by omega⟩
      have hal : a < l.length := by omega
      clear ha1 ha2 h0 h1
      obtain ⟨b, off, rfl, hb, hc⟩ := hr.2 (by omega)
      have hx := hr.elem a
      have hca := hc a hal
      have HC := Lib.hid hc
      have H256 := Lib.hid hr.1
      clear hc hr
      obtain ⟨x, hxe⟩ : ∃ x, l[a]?.getD 0 = x := ⟨_, rfl⟩
      rw [hxe] at hx hca
      have hraw0 : Hid (((x - M.lead (M.ones x) : Nat) : Int) = ((M.rawN l a 0 : Nat) : Int)) := by show _ = _; unfold M.rawN; rw [hxe]; rfl
      obtain ⟨k, hk⟩ : ∃ k, M.ones x = k := ⟨_, rfl⟩
      have hk8 := M.ones_le x hx
      rw [hk] at hraw0 hk8
      have HK : Hid (M.ones (l[a]?.getD 0) = k) := by show _ = _; rw [hxe]; exact hk
      have HKX := Lib.hid hk
      clear hxe hk
      obtain ⟨N, hN⟩ : ∃ N, l.length = N := ⟨_, rfl⟩
      have HN := Lib.hid hN
      rw [hN] at hl hal ⊢
      clear hN
      have h8 : (0 : Int) ≤ (a : Int) := by omega
      go_enter Tryd.func13, Tryd.ntmps13
      go_wp2
      go_loop [7] (fun s => ∃ (j : Nat), j ≤ 8 ∧ s = .int .i64 j ∧ Hid (M.onesF x (8 - j) j = M.ones x)) (fun s => 8 - (intOf s).toNat)
      case atStart => exact ⟨0, by omega, rfl, rfl⟩
      case round =>
        obtain ⟨j, hj, rfl, ho⟩ := hrel
        have fin : ∀ hkj : j = k, True := fun _ => trivial
        by_cases hgo : j < 8 ∧ ¬ x * 2 ^ j % 256 < 128
        · obtain ⟨hj8, hbit⟩ := hgo
          have hby := bit_yes x j hx hj8 hbit
          have HO : Hid (M.onesF x (8 - (j + 1)) (j + 1) = M.ones x) := by show _ = _; rw [← ho.out, ← M.onesF_no x _ j hbit]; congr 1; omega
          clear hbit
          have e7 : (7 : Int) - (j : Int) = ((7 - j : Nat) : Int) := by omega
          go_wp2
          go_round
          case rel => exact ⟨j + 1, by omega, by go_num, HO⟩
          case measure => simp [intOf]; omega
        · have hjk : Hid (j = k) := by
            show _ = _
            rw [← HKX.out, ← ho.out]
            by_cases h : j < 8
            · exact (M.onesF_yes x _ j (Decidable.not_not.1 fun hn => hgo ⟨h, hn⟩) (by omega)).symm
            · obtain rfl : j = 8 := by omega
              rfl
          obtain rfl := hjk.out
          clear hjk
          by_cases hs : N - (a + 1) < j
          · have HT : Hid (M.takeN l a = none) := takeN_short l a (by rw [HN.out]; exact hal) (by rw [HN.out, HK.out]; exact hs)
            by_cases h : j < 8
            · have hbn := bit_no x j hx h (Decidable.not_not.1 fun hn => hgo ⟨h, hn⟩)
              have e7 : (7 : Int) - (j : Int) = ((7 - j : Nat) : Int) := by omega
              clear hgo
              go_wp2
              go_ret3
              rw [HT.out]
              exact ⟨rfl, Below.refl _ _⟩
            · clear hgo
              go_wp2
              go_ret3
              rw [HT.out]
              exact ⟨rfl, Below.refl _ _⟩
          · by_cases h7 : j < 7
            · have hbn := bit_no x j hx (by omega) (Decidable.not_not.1 fun hn => hgo ⟨by omega, hn⟩)
              have e7 : (7 : Int) - (j : Int) = ((7 - j : Nat) : Int) := by omega
              have hm := mask_num x j hx HKX.out h7
              clear hgo
              go_wp2
              have e7w : IntKind.i64.wrap ((7 : Int) - (j : Int)) = ((7 - j : Nat) : Int) := by rw [IntWalk.i64_in _ (by omega)]; exact e7
              have hp : (2 : Int) ^ (7 - j) ≤ 128 := by
                have : ∀ j, j < 7 → (2 : Int) ^ (7 - j) ≤ 128 := by decide
                exact this j h7
              have hp1 : (1 : Int) ≤ 2 ^ (7 - j) := by
                have : ∀ j, j < 7 → (1 : Int) ≤ 2 ^ (7 - j) := by decide
                exact this j h7
              have ew1 : IntKind.u64.wrap ((2 : Int) ^ (7 - j)) = 2 ^ (7 - j) := by rw [IntKind.wrap_u64]; omega
              have ew2 : IntKind.u64.wrap ((2 : Int) ^ (7 - j) - 1) = 2 ^ (7 - j) - 1 := by rw [IntKind.wrap_u64]; omega
              have hi0 : (a : Int) < (N : Int) := by omega
              go_quiet (fail)
              go_wp2
              have hBW := below_drewN (Below.refl w.heap.size w) nq
              generalize w.drewN nq = W at *
              clear hm ew1 ew2 e7w hp hp1 hbn hca
              go_loop [8, 9] (fun s i => ∃ (q : Nat) (V : Int), q ≤ j ∧ i = .int .i64 ((q : Int) + 1) ∧ s = .int .u64 V ∧ Hid (V = ((M.rawN l a q : Nat) : Int))) (fun _ i => j + 1 - (intOf i).toNat)
              case atStart => exact ⟨0, _, by omega, rfl, rfl, hraw0.out⟩
              case round =>
                obtain ⟨q, V, hq, rfl, rfl, hV⟩ := hrel
                by_cases hlt : q < j
                · have hlen : a + 1 + q < l.length := by rw [HN.out]; omega
                  have hcell := (hBW.cell (p := ⟨b, off + (a + (q + 1)), none⟩) hb).trans ((by rw [show a + (q + 1) = a + 1 + q by omega] : w.cell? ⟨b, off + (a + (q + 1)), none⟩ = w.cell? ⟨b, off + (a + 1 + q), none⟩).trans (HC.out (a + 1 + q) hlen))
                  have hy : l[a + 1 + q]?.getD 0 < 256 := by rw [List.getElem?_eq_getElem hlen]; exact H256.out _ (List.getElem_mem hlen)
                  have hvl : M.rawN l a q < 72057594037927936 := by
                    refine Nat.lt_of_lt_of_le (rawN_lt l H256.out a q (by rw [HN.out]; exact hal)) ?_
                    rw [HK.out]
                    exact Nat.pow_le_pow_right (n := 2) (by decide) (show 7 - j + 8 * q ≤ 56 by omega)
                  have hor := or_num _ _ hvl hy
                  rw [← rawN_succ l a q hlen, ← hV.out] at hor
                  obtain ⟨V2, hV2⟩ : ∃ V2 : Int, ((M.rawN l a (q + 1) : Nat) : Int) = V2 := ⟨_, rfl⟩
                  rw [hV2] at hor
                  have HV2 := Lib.hid hV2
                  have hwr : IntKind.u64.wrap (V * 256) = V * 256 := by rw [IntKind.wrap_u64, hV.out]; omega
                  obtain ⟨y, hye⟩ : ∃ y, l[a + 1 + q]?.getD 0 = y := ⟨_, rfl⟩
                  rw [hye] at hcell hy hor
                  clear hye hV2 hvl hlen
                  have hi1 : (a : Int) + ((q : Int) + 1) < (N : Int) := by omega
                  go_wp2
                  go_round
                  case rel => exact ⟨q + 1, V2, by omega, by go_num, rfl, HV2.out.symm⟩
                  case measure => simp [intOf]; omega
                · obtain rfl : q = j := by omega
                  have hrn : M.rawN l a q < 18446744073709551616 := by
                    refine Nat.lt_of_lt_of_le (rawN_lt l H256.out a q (by rw [HN.out]; exact hal)) ?_
                    rw [HK.out]
                    exact Nat.pow_le_pow_right (n := 2) (by decide) (show 7 - q + 8 * q ≤ 64 by omega)
                  have hfol := fun w => follow_any (M.rawN l a q) w hrn
                  rw [← hV.out] at hfol
                  by_cases hf : M.fol (M.rawN l a q) = q
                  · have HT : Hid (M.takeN l a = some (M.rawN l a q, a + 1 + q)) := takeN_yes l a q (by rw [HN.out]; exact hal) HK.out (by rw [HN.out]; exact hs) hf
                    rw [hf] at hfol
                    have hne : ((q : Int) != (q : Int)) = false := by simp
                    clear hf hrn
                    go_wp2_with (go_at_call 29; refine (hfol _).mono ?_; rintro e w' ⟨rfl, rfl⟩)
                    go_ret3
                    rw [HT.out]
                    exact ⟨by rw [hV.out, numR, show ((a + 1 + q : Nat) : Int) = (a : Int) + q + 1 by omega]; rfl, hBW⟩
                  · have HT : Hid (M.takeN l a = none) := takeN_not l a q (by rw [HN.out]; exact hal) HK.out (by rw [HN.out]; exact hs) hf
                    have hne : (((M.fol (M.rawN l a q) : Nat) : Int) != (q : Int)) = true := by simp; omega
                    clear hf hrn
                    go_wp2_with (go_at_call 29; refine (hfol _).mono ?_; rintro e w' ⟨rfl, rfl⟩)
                    go_ret3
                    rw [HT.out]
                    exact ⟨rfl, hBW⟩
            · have hz := rest_zero x j hx HKX.out h7
              have hst : Hid ((0 : Int) = ((M.rawN l a 0 : Nat) : Int)) := by show _ = _; rw [← hraw0.out, hz]; rfl
              have hBW := Below.refl w.heap.size w
              by_cases h : j < 8
              · have hbn := bit_no x j hx h (Decidable.not_not.1 fun hn => hgo ⟨h, hn⟩)
                have e7 : (7 : Int) - (j : Int) = ((7 - j : Nat) : Int) := by omega
                clear hgo
                go_wp2
                clear hbn hca hz
                go_loop [8, 9] (fun s i => ∃ (q : Nat) (V : Int), q ≤ j ∧ i = .int .i64 ((q : Int) + 1) ∧ s = .int .u64 V ∧ Hid (V = ((M.rawN l a q : Nat) : Int))) (fun _ i => j + 1 - (intOf i).toNat)
                case atStart => exact ⟨0, _, by omega, rfl, rfl, hst⟩
                case round =>
                  obtain ⟨q, V, hq, rfl, rfl, hV⟩ := hrel
                  by_cases hlt : q < j
                  · have hlen : a + 1 + q < l.length := by rw [HN.out]; omega
                    have hcell := (hBW.cell (p := ⟨b, off + (a + (q + 1)), none⟩) hb).trans ((by rw [show a + (q + 1) = a + 1 + q by omega] : w.cell? ⟨b, off + (a + (q + 1)), none⟩ = w.cell? ⟨b, off + (a + 1 + q), none⟩).trans (HC.out (a + 1 + q) hlen))
                    have hy : l[a + 1 + q]?.getD 0 < 256 := by rw [List.getElem?_eq_getElem hlen]; exact H256.out _ (List.getElem_mem hlen)
                    have hvl : M.rawN l a q < 72057594037927936 := by
                      refine Nat.lt_of_lt_of_le (rawN_lt l H256.out a q (by rw [HN.out]; exact hal)) ?_
                      rw [HK.out]
                      exact Nat.pow_le_pow_right (n := 2) (by decide) (show 7 - j + 8 * q ≤ 56 by omega)
                    have hor := or_num _ _ hvl hy
                    rw [← rawN_succ l a q hlen, ← hV.out] at hor
                    obtain ⟨V2, hV2⟩ : ∃ V2 : Int, ((M.rawN l a (q + 1) : Nat) : Int) = V2 := ⟨_, rfl⟩
                    rw [hV2] at hor
                    have HV2 := Lib.hid hV2
                    have hwr : IntKind.u64.wrap (V * 256) = V * 256 := by rw [IntKind.wrap_u64, hV.out]; omega
                    obtain ⟨y, hye⟩ : ∃ y, l[a + 1 + q]?.getD 0 = y := ⟨_, rfl⟩
                    rw [hye] at hcell hy hor
                    clear hye hV2 hvl hlen
                    have hi1 : (a : Int) + ((q : Int) + 1) < (N : Int) := by omega
                    go_wp2
                    go_round
                    case rel => exact ⟨q + 1, V2, by omega, by go_num, rfl, HV2.out.symm⟩
                    case measure => simp [intOf]; omega
                  · obtain rfl : q = j := by omega
                    have hrn : M.rawN l a q < 18446744073709551616 := by
                      refine Nat.lt_of_lt_of_le (rawN_lt l H256.out a q (by rw [HN.out]; exact hal)) ?_
                      rw [HK.out]
                      exact Nat.pow_le_pow_right (n := 2) (by decide) (show 7 - q + 8 * q ≤ 64 by omega)
                    have hfol := fun w => follow_any (M.rawN l a q) w hrn
                    rw [← hV.out] at hfol
                    by_cases hf : M.fol (M.rawN l a q) = q
                    · have HT : Hid (M.takeN l a = some (M.rawN l a q, a + 1 + q)) := takeN_yes l a q (by rw [HN.out]; exact hal) HK.out (by rw [HN.out]; exact hs) hf
                      rw [hf] at hfol
                      have hne : ((q : Int) != (q : Int)) = false := by simp
                      clear hf hrn
                      go_wp2_with (go_at_call 29; refine (hfol _).mono ?_; rintro e w' ⟨rfl, rfl⟩)
                      go_ret3
                      rw [HT.out]
                      exact ⟨by rw [hV.out, numR, show ((a + 1 + q : Nat) : Int) = (a : Int) + q + 1 by omega]; rfl, hBW⟩
                    · have HT : Hid (M.takeN l a = none) := takeN_not l a q (by rw [HN.out]; exact hal) HK.out (by rw [HN.out]; exact hs) hf
                      have hne : (((M.fol (M.rawN l a q) : Nat) : Int) != (q : Int)) = true := by simp; omega
                      clear hf hrn
                      go_wp2_with (go_at_call 29; refine (hfol _).mono ?_; rintro e w' ⟨rfl, rfl⟩)
                      go_ret3
                      rw [HT.out]
                      exact ⟨rfl, hBW⟩
              · clear hgo
                go_wp2
                clear hca hz
                go_loop [8, 9] (fun s i => ∃ (q : Nat) (V : Int), q ≤ j ∧ i = .int .i64 ((q : Int) + 1) ∧ s = .int .u64 V ∧ Hid (V = ((M.rawN l a q : Nat) : Int))) (fun _ i => j + 1 - (intOf i).toNat)
                case atStart => exact ⟨0, _, by omega, rfl, rfl, hst⟩
                case round =>
                  obtain ⟨q, V, hq, rfl, rfl, hV⟩ := hrel
                  by_cases hlt : q < j
                  · have hlen : a + 1 + q < l.length := by rw [HN.out]; omega
                    have hcell := (hBW.cell (p := ⟨b, off + (a + (q + 1)), none⟩) hb).trans ((by rw [show a + (q + 1) = a + 1 + q by omega] : w.cell? ⟨b, off + (a + (q + 1)), none⟩ = w.cell? ⟨b, off + (a + 1 + q), none⟩).trans (HC.out (a + 1 + q) hlen))
                    have hy : l[a + 1 + q]?.getD 0 < 256 := by rw [List.getElem?_eq_getElem hlen]; exact H256.out _ (List.getElem_mem hlen)
                    have hvl : M.rawN l a q < 72057594037927936 := by
                      refine Nat.lt_of_lt_of_le (rawN_lt l H256.out a q (by rw [HN.out]; exact hal)) ?_
                      rw [HK.out]
                      exact Nat.pow_le_pow_right (n := 2) (by decide) (show 7 - j + 8 * q ≤ 56 by omega)
                    have hor := or_num _ _ hvl hy
                    rw [← rawN_succ l a q hlen, ← hV.out] at hor
                    obtain ⟨V2, hV2⟩ : ∃ V2 : Int, ((M.rawN l a (q + 1) : Nat) : Int) = V2 := ⟨_, rfl⟩
                    rw [hV2] at hor
                    have HV2 := Lib.hid hV2
                    have hwr : IntKind.u64.wrap (V * 256) = V * 256 := by rw [IntKind.wrap_u64, hV.out]; omega
                    obtain ⟨y, hye⟩ : ∃ y, l[a + 1 + q]?.getD 0 = y := ⟨_, rfl⟩
                    rw [hye] at hcell hy hor
                    clear hye hV2 hvl hlen
                    have hi1 : (a : Int) + ((q : Int) + 1) < (N : Int) := by omega
                    go_wp2
                    go_round
                    case rel => exact ⟨q + 1, V2, by omega, by go_num, rfl, HV2.out.symm⟩
                    case measure => simp [intOf]; omega
                  · obtain rfl : q = j := by omega
                    have hrn : M.rawN l a q < 18446744073709551616 := by
                      refine Nat.lt_of_lt_of_le (rawN_lt l H256.out a q (by rw [HN.out]; exact hal)) ?_
                      rw [HK.out]
                      exact Nat.pow_le_pow_right (n := 2) (by decide) (show 7 - q + 8 * q ≤ 64 by omega)
                    have hfol := fun w => follow_any (M.rawN l a q) w hrn
                    rw [← hV.out] at hfol
                    by_cases hf : M.fol (M.rawN l a q) = q
                    · have HT : Hid (M.takeN l a = some (M.rawN l a q, a + 1 + q)) := takeN_yes l a q (by rw [HN.out]; exact hal) HK.out (by rw [HN.out]; exact hs) hf
                      rw [hf] at hfol
                      have hne : ((q : Int) != (q : Int)) = false := by simp
                      clear hf hrn
                      go_wp2_with (go_at_call 29; refine (hfol _).mono ?_; rintro e w' ⟨rfl, rfl⟩)
                      go_ret3
                      rw [HT.out]
                      exact ⟨by rw [hV.out, numR, show ((a + 1 + q : Nat) : Int) = (a : Int) + q + 1 by omega]; rfl, hBW⟩
                    · have HT : Hid (M.takeN l a = none) := takeN_not l a q (by rw [HN.out]; exact hal) HK.out (by rw [HN.out]; exact hs) hf
                      have hne : (((M.fol (M.rawN l a q) : Nat) : Int) != (q : Int)) = true := by simp; omega
                      clear hf hrn
                      go_wp2_with (go_at_call 29; refine (hfol _).mono ?_; rintro e w' ⟨rfl, rfl⟩)
                      go_ret3
                      rw [HT.out]
                      exact ⟨rfl, hBW⟩
end Go.Proofs.YthnffebjjnbakaaDoor
