/-
  The reference's With, Join, Lack.
-/
import Derived.Test.YtdffifkleaekhaaVRPut
import Derived.OrdersHeld
import Derived.Deep.RegionHeld
namespace Go.Proofs.Ytdffifkleaekhaa.V
open Go.RowKit
set_option linter.unusedVariables false
set_option linter.unusedSimpArgs false

theorem right_one {s : ByteArray} {n : Int} (h : dotB (s, n) = true) : rightB [(s, n)] = true := by
  rw [rightB_iff]
  refine ⟨by simp, fun d hd => ?_, ⟨by simp, trivial⟩⟩
  simp at hd; subst hd; exact h
theorem with_eq (l : List D) (s : ByteArray) (n : Int) : withO l (s, n) = if (rightB l && dotB (s, n)) = true then (if n - 1 = at' l s ∧ (putV ordA l s n).length ≤ 64 then (putV ordA l s n, 0) else ([], 70)) else ([], 2) := by
  unfold withO
  by_cases hr : (rightB l && dotB (s, n)) = true
  · rw [if_pos hr, if_pos hr]
    obtain ⟨h1, h2⟩ := Bool.and_eq_true_iff.1 hr
    simp only
    by_cases hn : n = at' l s + 1
    · rw [if_pos hn]
      unfold joinO
      rw [if_pos (by rw [h1, right_one h2]; rfl)]
      have e : joinV ordA l [(s, n)] = putV ordA l s n := by
        show putV ordA l s (max n (at' l s)) = _
        rw [show max n (at' l s) = n by omega]
      rw [e]
      by_cases h64 : (putV ordA l s n).length ≤ 64
      · rw [if_pos h64, if_pos ⟨by omega, h64⟩]
      · rw [if_neg h64, if_neg (fun h => h64 h.2)]
    · rw [if_neg hn, if_neg (fun h => hn (by omega))]
  · rw [if_neg hr, if_neg hr]

set_option maxRecDepth 100000 in
set_option maxHeartbeats 3200000 in
theorem rwith_any {A : Option Addr} {l : List D} {c : Nat} (s : ByteArray) (n : Int) {w : World} (hx : Vc.ok ⟨A, c, l⟩ w w.heap.size) (hfit : Fit l) (hs : s.size ≤ 9223372036854775807) : Calls Try.prog 34 #[.slice A l.length c, .agg #[.string s, .int .i64 n]] w fun e w' => VecR e w' (withO l (s, n)) ∧ Below w.heap.size w w' := by
  have hb1 : Below w.heap.size w (w.alloc (.cells #[.string s, .int .i64 n] 23)) := (Below.refl _ w).alloc (Nat.le_refl _) _
  have ht1 : Two (w.alloc (.cells #[.string s, .int .i64 n] 23)) w.heap.size (.string s) (.int .i64 n) := Two.new w _ _
  obtain ⟨L, hL⟩ : ∃ L, l.length = L := ⟨_, rfl⟩
  have HN := Lib.hid hL.symm
  obtain ⟨R, hR⟩ : ∃ R, rightB l = R := ⟨_, rfl⟩
  obtain ⟨Dv, hDv⟩ : ∃ R, dotB (s, n) = R := ⟨_, rfl⟩
  obtain ⟨V, hV⟩ : ∃ V, at' l s = V := ⟨_, rfl⟩
  obtain ⟨P, hP⟩ : ∃ P, putV ordA l s n = P := ⟨_, rfl⟩
  obtain ⟨O, hO⟩ : ∃ O, withO l (s, n) = O := ⟨_, rfl⟩
  have hO2 : O = if (R && Dv) = true then (if n - 1 = V ∧ P.length ≤ 64 then (P, 0) else ([], 70)) else ([], 2) := by rw [← hO, ← hR, ← hDv, ← hV, ← hP]; exact with_eq l s n
  rw [hO, hL]
  have hD2 : Dv = true → 1 ≤ n ∧ n ≤ 4611686018427387904 := fun e => (dotB_iff.1 (hDv.trans e)).2
  have HO2 := Lib.hid hO2
  have HRv := Lib.hid hR
  have HDv := Lib.hid hDv
  have HAt := Lib.hid hV
  have HP := Lib.hid hP
  have HD2 := Lib.hid hD2
  have HFit := Lib.hid (And.intro hfit hs)
  clear hO2 hR hDv hV hP hD2 hO hfit hs
  obtain ⟨W1, hW1⟩ : ∃ W1, w.alloc (.cells #[.string s, .int .i64 n] 23) = W1 := ⟨_, rfl⟩
  have HWE := Lib.hid hW1
  rw [hW1] at hb1 ht1
  have HRow : Hid (∀ W, Below W1.heap.size W1 W → RowD W W.heap.size A l ∧ l.length ≤ 10000000000000) := fun W hW => ⟨((hx.up hb1).up hW).1, hx.2.2.2⟩
  have HC : Hid (∀ W, Below W1.heap.size W1 W → W.cell? ⟨w.heap.size, 0, none⟩ = some (.string s) ∧ W.cell? ⟨w.heap.size, 1, none⟩ = some (.int .i64 n)) := fun W hW => ⟨(ht1.below hW ht1.lt).c0, (ht1.below hW ht1.lt).c1⟩
  have HW1 : Hid (∀ W, Below W1.heap.size W1 W → Below w.heap.size w W) := fun W hW => hb1.trans (hW.mono hb1.size)
  clear hW1 hb1 ht1 hx hL
  go_enter Try.func34, Try.ntmps34
  go_wp2_with fail
  rw [HWE.out, HN.out]
  refine (rright_any c (HRow.out _ (Below.refl _ _)).1 (HRow.out _ (Below.refl _ _)).2 HFit.out.1).mono ?_
  rintro e wa ⟨rfl, hba⟩
  rw [HRv.out]
  have HA := Lib.hid hba
  obtain ⟨c0, c1⟩ := HC.out _ hba
  clear hba
  go_wp2_with fail
  refine (risDot_any s n _ HFit.out.2).mono ?_
  rintro e wb ⟨rfl, hbb⟩
  rw [HDv.out]
  have HB := Lib.hid (HA.out.trans (hbb.mono HA.out.size))
  clear hbb c0 c1
  obtain ⟨c0, c1⟩ := HC.out _ HB.out
  cases R with
  | false =>
    have HO : Hid (O = ([], 2)) := HO2.out
    go_wp2
    go_ret2
    exact ⟨⟨none, 0, by rw [HO.out]; rfl, by rw [HO.out]; exact nil_ok _ _⟩, HW1.out _ HB.out⟩
  | true =>
    cases Dv with
    | false =>
      have HO : Hid (O = ([], 2)) := HO2.out
      go_wp2
      go_ret2
      exact ⟨⟨none, 0, by rw [HO.out]; rfl, by rw [HO.out]; exact nil_ok _ _⟩, HW1.out _ HB.out⟩
    | true =>
      have hn1 := HD2.out (by first | rfl | trivial)
      have hl64 := right_len HRv.out
      have HCall := Lib.hid (put_any c s (n := n) (HRow.out _ HB.out).1 (by omega) (by omega))
      go_wp2_with fail
      refine HCall.out.mono ?_
      rintro e wc ⟨⟨A3, c3, rfl, ok3⟩, hbc⟩
      rw [HP.out] at ok3 ⊢
      have HB3 := Lib.hid (HB.out.trans (hbc.mono HB.out.size))
      obtain ⟨pl, hpl⟩ : ∃ pl, P.length = pl := ⟨_, rfl⟩
      rw [hpl]
      have HPL := Lib.hid hpl
      have HOK := Lib.hid ok3
      clear hbc ok3 c0 c1 HCall hpl
      obtain ⟨c0, c1⟩ := HC.out _ HB3.out
      have HRB := Lib.hid (HRow.out _ HB3.out)
      have hw : IntKind.wrap .i64 (n - 1) = n - 1 := by rw [IntKind.wrap_i64]; omega
      have hw2 : wrap64 (n - 1) = n - 1 := by unfold wrap64; omega
      have HO3 : Hid (O = if n - 1 = V ∧ pl ≤ 64 then (P, 0) else ([], 70)) := by rw [← HPL.out]; exact HO2.out
      obtain ⟨k, hk⟩ : ∃ k, n - 1 = k := ⟨_, rfl⟩
      rw [hk] at hw hw2 HO3
      clear hl64 hn1
      by_cases hkv : k = V
      · have hne : (k != V) = false := by simp [hkv]
        by_cases h64 : pl ≤ 64
        · have HO : Hid (O = (P, 0)) := HO3.out.trans (if_pos ⟨hkv, h64⟩)
          have hng : ¬ (64 : Int) < (pl : Int) := by omega
          clear hkv h64
          go_upto_region 6 with fail
          go_quiet (first | (refine Calls.quiet_of (rat_v c s HAt.out rfl HRB.out.2 ?_); exact RowD.drewN HRB.out.1 _))
          go_wp2
          go_ret2
          exact ⟨⟨A3, c3, by rw [HO.out, HPL.out]; rfl, by rw [HO.out]; exact HOK.out.up (below_drewN (Below.refl _ _) _)⟩, HW1.out _ (below_drewN HB3.out _)⟩
        · have HO : Hid (O = ([], 70)) := HO3.out.trans (if_neg (fun h => h64 h.2))
          have hng : (64 : Int) < (pl : Int) := by omega
          clear hkv h64
          go_upto_region 6 with fail
          go_quiet (first | (refine Calls.quiet_of (rat_v c s HAt.out rfl HRB.out.2 ?_); exact RowD.drewN HRB.out.1 _))
          go_wp2
          go_ret2
          exact ⟨⟨none, 0, by rw [HO.out]; rfl, by rw [HO.out]; exact nil_ok _ _⟩, HW1.out _ (below_drewN HB3.out _)⟩
      · have HO : Hid (O = ([], 70)) := HO3.out.trans (if_neg (fun h => hkv h.1))
        have hne : (k != V) = true := by simp [hkv]
        clear hkv
        go_upto_region 6 with fail
        go_quiet (first | (refine Calls.quiet_of (rat_v c s HAt.out rfl HRB.out.2 ?_); exact RowD.drewN HRB.out.1 _))
        go_wp2
        go_ret2
        exact ⟨⟨none, 0, by rw [HO.out]; rfl, by rw [HO.out]; exact nil_ok _ _⟩, HW1.out _ (below_drewN HB3.out _)⟩
end Go.Proofs.Ytdffifkleaekhaa.V
