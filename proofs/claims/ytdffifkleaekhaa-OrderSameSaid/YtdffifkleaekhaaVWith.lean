/-
  The program's With.
-/
import Derived.Test.YtdffifkleaekhaaVHas
namespace Go.Proofs.Ytdffifkleaekhaa.V
open Go.RowKit
set_option linter.unusedVariables false
set_option linter.unusedSimpArgs false

def withO (v : List D) (d : D) : List D × Int := if (rightB v && dotB d) = true then (if d.2 = at' v d.1 + 1 then joinO v [d] else ([], 70)) else ([], 2)
theorem one_ok (w : World) (s : ByteArray) (n : Int) : Vc.ok ⟨some ⟨w.heap.size, 0, none⟩, 1, [(s, n)]⟩ (w.alloc (.cells #[.string s, .int .i64 n] 23)) (w.alloc (.cells #[.string s, .int .i64 n] 23)).heap.size := by
  refine ⟨fun _ => ⟨w.heap.size, 0, rfl, by simp, fun j d hj => ?_⟩, by simp, by show 1 ≤ _; omega, by simp⟩
  cases j with
  | zero => simp at hj; subst hj; exact ⟨(Two.new w _ _).c0, (Two.new w _ _).c1⟩
  | succ k => simp at hj

set_option maxRecDepth 100000 in
set_option maxHeartbeats 3200000 in
theorem with_fresh {A : Option Addr} {l : List D} {c : Nat} (s : ByteArray) (n : Int) {w : World} (hx : Vc.ok ⟨A, c, l⟩ w w.heap.size) : Calls Try.prog 88 #[.slice A l.length c, .agg #[.string s, .int .i64 n]] w fun e w' => VecB w.heap.size e w' (withO l (s, n)) ∧ Below w.heap.size w w' := by
  have hb1 : Below w.heap.size w (w.alloc (.cells #[.string s, .int .i64 n] 23)) := (Below.refl _ w).alloc (Nat.le_refl _) _
  have ht1 : Two (w.alloc (.cells #[.string s, .int .i64 n] 23)) w.heap.size (.string s) (.int .i64 n) := Two.new w _ _
  obtain ⟨L, hL⟩ : ∃ L, l.length = L := ⟨_, rfl⟩
  have HN := Lib.hid hL.symm
  obtain ⟨R, hR⟩ : ∃ R, rightB l = R := ⟨_, rfl⟩
  obtain ⟨Dv, hDv⟩ : ∃ R, dotB (s, n) = R := ⟨_, rfl⟩
  obtain ⟨V, hV⟩ : ∃ V, at' l s = V := ⟨_, rfl⟩
  obtain ⟨O, hO⟩ : ∃ O, withO l (s, n) = O := ⟨_, rfl⟩
  have hO2 : O = if (R && Dv) = true then (if n = V + 1 then joinO l [(s, n)] else ([], 70)) else ([], 2) := by rw [← hO, ← hR, ← hDv, ← hV]; rfl
  rw [hO, hL]
  have hVb : R = true → 0 ≤ V ∧ V ≤ 4611686018427387904 := fun e => by rw [← hV]; exact ⟨right_at (hR.trans e) s, right_le (hR.trans e) s⟩
  have HO2 := Lib.hid hO2
  have HRv := Lib.hid hR
  have HDv := Lib.hid hDv
  have HAt := Lib.hid hV
  have HVb := Lib.hid hVb
  clear hO2 hR hDv hV hVb hO
  obtain ⟨W1, hW1⟩ : ∃ W1, w.alloc (.cells #[.string s, .int .i64 n] 23) = W1 := ⟨_, rfl⟩
  have HWE := Lib.hid hW1
  rw [hW1] at hb1 ht1
  have HOK : Hid (∀ W, Below W1.heap.size W1 W → Vc.ok ⟨A, c, l⟩ W W.heap.size) := fun W hW => (hx.up hb1).up hW
  have HRow : Hid (∀ W, Below W1.heap.size W1 W → RowD W W.heap.size A l ∧ l.length ≤ 10000000000000) := fun W hW => ⟨((hx.up hb1).up hW).1, hx.2.2.2⟩
  have HC : Hid (∀ W, Below W1.heap.size W1 W → W.cell? ⟨w.heap.size, 0, none⟩ = some (.string s) ∧ W.cell? ⟨w.heap.size, 1, none⟩ = some (.int .i64 n)) := fun W hW => ⟨(ht1.below hW ht1.lt).c0, (ht1.below hW ht1.lt).c1⟩
  have HW1 : Hid (∀ W, Below W1.heap.size W1 W → Below w.heap.size w W) := fun W hW => hb1.trans (hW.mono hb1.size)
  clear hW1 hb1 ht1 hx hL
  go_enter Try.func88, Try.ntmps88
  go_wp2_with fail
  rw [HWE.out, HN.out]
  refine (right_any c (HRow.out _ (Below.refl _ _)).1 (HRow.out _ (Below.refl _ _)).2).mono ?_
  rintro e wa ⟨rfl, hba⟩
  rw [HRv.out]
  have HA := Lib.hid hba
  obtain ⟨c0, c1⟩ := HC.out _ hba
  clear hba
  cases R with
  | false =>
    have HO : Hid (O = ([], 2)) := HO2.out
    go_wp2
    go_ret2
    exact ⟨⟨none, 0, by rw [HO.out]; rfl, by rw [HO.out]; exact nil_ok _ _, blk_none _⟩, HW1.out _ HA.out⟩
  | true =>
    go_wp2_with fail
    refine (rightDot_any s n _).mono ?_
    rintro e wb ⟨rfl, hbb⟩
    rw [HDv.out]
    have HB := Lib.hid (HA.out.trans (hbb.mono HA.out.size))
    clear hbb c0 c1
    cases Dv with
    | false =>
      have HO : Hid (O = ([], 2)) := HO2.out
      go_wp2
      go_ret2
      exact ⟨⟨none, 0, by rw [HO.out]; rfl, by rw [HO.out]; exact nil_ok _ _, blk_none _⟩, HW1.out _ HB.out⟩
    | true =>
      have hvb := HVb.out (by first | rfl | trivial)
      have hw : IntKind.wrap .i64 (V + 1) = V + 1 := by rw [IntKind.wrap_i64]; omega
      have hw2 : wrap64 (V + 1) = V + 1 := by unfold wrap64; omega
      have HS0 := Lib.hid (HB.out.trans ((Below.refl wb.heap.size wb).drew.mono HB.out.size))
      by_cases hn : n = V + 1
      · have HO : Hid (O = joinO l [(s, n)]) := HO2.out.trans (if_pos hn)
        have hne : (n != V + 1) = false := by simp [hn]
        clear hvb hn
        go_upto_region 3 with fail
        refine wp_region_held_drew (S := fun Wv => Below W1.heap.size W1 Wv) (by kernel_rfl) HS0.out (fun hS => ?_)
        generalize wb.drew = wd at *
        refine wpAnyH_take (i := 0) (v := ?_) rfl (by kernel_rfl) (by kernel_rfl) (by kernel_rfl) (fun _ _ _ h => h) (Yields.yieldsIf (Or.inl ⟨by kernel_rfl, ?_⟩)) hS ?_
        rotate_left
        · first | (intro w; go_simp; done) | (intro w; go_simp; with_reducible rfl)
        refine wpAnyH_take (i := 1) (v := ?_) rfl (by kernel_rfl) (by kernel_rfl) (by kernel_rfl) (fun _ _ _ h => h) (Or.inl ⟨by kernel_rfl, fun W hW => ?_⟩) hS ?_
        rotate_left
        · obtain ⟨c0, c1⟩ := HC.out W hW
          first | (go_simp; done) | (go_simp; with_reducible rfl)
        refine wpAnyH_take (i := 2) (v := ?_) rfl (by kernel_rfl) (by kernel_rfl) (by kernel_rfl) (fun _ _ _ h => h) (Yields.yieldsIf (Or.inl ⟨by kernel_rfl, ?_⟩)) hS ?_
        rotate_left
        · first | (intro w; go_simp; done) | (intro w; go_simp; with_reducible rfl)
        refine wpAnyH_take (i := 3) (v := ?_) rfl (by kernel_rfl) (by kernel_rfl) (by kernel_rfl) (fun _ _ _ h => h) (Yields.yieldsIf (Or.inl ⟨by kernel_rfl, ?_⟩)) hS ?_
        rotate_left
        · first | (intro w; go_simp; done) | (intro w; go_simp; with_reducible rfl)
        refine wpAnyH_take (i := 4) (v := ?_) rfl (by kernel_rfl) (by kernel_rfl) (by kernel_rfl) (fun _ _ _ h => h) (Or.inl ⟨by kernel_rfl, fun W hW => ?_⟩) hS ?_
        rotate_left
        · obtain ⟨c0, c1⟩ := HC.out W hW
          first | (go_simp; done) | (go_simp; with_reducible rfl)
        try go_simp
        refine wpAnyH_ready (rs := [5]) (by kernel_rfl) (by simp) ?_
        refine AllReadyH.cons rfl (fun K hK => ?_) AllReadyH.nil
        go_simp
        go_wp2_with fail
        try rw [HN.out]
        refine (at_any c s ((HRow.out _ (HS0.out)).1) (HRow.out _ HS0.out).2).mono ?_
        rintro e wc ⟨rfl, hbc⟩
        have HCc := Lib.hid (HS0.out.trans (hbc.mono HS0.out.size))
        rw [HAt.out]
        clear hbc
        have hS3 : Below W1.heap.size W1 wc := HCc.out
        refine hK.out _ _ hS3 (fun hS => ?_)
        clear hK K hS3
        refine wpAnyH_take (i := 6) (v := ?_) rfl (by kernel_rfl) (by kernel_rfl) (by kernel_rfl) (fun _ _ _ h => h) (Yields.yieldsIf (Or.inl ⟨by kernel_rfl, ?_⟩)) hS ?_
        rotate_left
        · first | (intro w; go_simp; done) | (intro w; go_simp; with_reducible rfl)
        refine wpAnyH_take (i := 7) (v := ?_) rfl (by kernel_rfl) (by kernel_rfl) (by kernel_rfl) (fun _ _ _ h => h) (Yields.yieldsIf (Or.inl ⟨by kernel_rfl, ?_⟩)) hS ?_
        rotate_left
        · first | (intro w; go_simp; done) | (intro w; go_simp; with_reducible rfl)
        try go_simp
        refine wpAnyH_done (by kernel_rfl) ?_ _
        obtain ⟨c0, c1⟩ := HC.out _ hS
        have HH := Lib.hid hS
        clear hS
        go_wp2_with fail
        have hb2 : Below wc.heap.size wc (wc.alloc (.cells #[.string s, .int .i64 n] 23)) := (Below.refl _ wc).alloc (Nat.le_refl _) _
        have hx : Vc.ok ⟨A, c, l⟩ (wc.alloc (.cells #[.string s, .int .i64 n] 23)) (wc.alloc (.cells #[.string s, .int .i64 n] 23)).heap.size := (HOK.out _ HH.out).up hb2
        have hy : Vc.ok ⟨some ⟨wc.heap.size, 0, none⟩, 1, [(s, n)]⟩ (wc.alloc (.cells #[.string s, .int .i64 n] 23)) (wc.alloc (.cells #[.string s, .int .i64 n] 23)).heap.size := one_ok wc s n
        have hcall := join_fresh hx hy
        simp only [Vc.v, List.length_cons, List.length_nil, Nat.zero_add, Nat.reduceAdd] at hcall

        refine hcall.mono ?_
        rintro e w4 ⟨⟨A4, c4, rfl, ok4, fr4⟩, hb4⟩
        have HFR : Hid (∀ k, blk A4 = some k → w.heap.size ≤ k) := fun k hk => by have h1 := fr4 k hk; have h2 := (HW1.out _ HH.out).size; simp only [World.size_alloc] at h1; omega
        clear fr4
        have HB4 := Lib.hid ((HW1.out _ HH.out).trans ((hb2.mono (HW1.out _ HH.out).size).trans (hb4.mono (by have := (HW1.out _ HH.out).size; simp; omega))))
        rw [← HO.out] at ok4 ⊢
        obtain ⟨ol, hol⟩ : ∃ ol, O.1.length = ol := ⟨_, rfl⟩
        have HOL := Lib.hid hol
        rw [hol]
        have HOK4 := Lib.hid ok4
        clear hol ok4 hcall hx hy hb2 hb4 c0 c1
        go_wp2
        go_ret2
        exact ⟨⟨A4, c4, by rw [HOL.out]; rfl, HOK4.out, HFR.out⟩, HB4.out⟩
      · have HO : Hid (O = ([], 70)) := HO2.out.trans (if_neg hn)
        have hne : (n != V + 1) = true := by simp [hn]
        clear hvb hn
        go_upto_region 3 with fail
        refine wp_region_held_drew (S := fun Wv => Below W1.heap.size W1 Wv) (by kernel_rfl) HS0.out (fun hS => ?_)
        generalize wb.drew = wd at *
        refine wpAnyH_take (i := 0) (v := ?_) rfl (by kernel_rfl) (by kernel_rfl) (by kernel_rfl) (fun _ _ _ h => h) (Yields.yieldsIf (Or.inl ⟨by kernel_rfl, ?_⟩)) hS ?_
        rotate_left
        · first | (intro w; go_simp; done) | (intro w; go_simp; with_reducible rfl)
        refine wpAnyH_take (i := 1) (v := ?_) rfl (by kernel_rfl) (by kernel_rfl) (by kernel_rfl) (fun _ _ _ h => h) (Or.inl ⟨by kernel_rfl, fun W hW => ?_⟩) hS ?_
        rotate_left
        · obtain ⟨c0, c1⟩ := HC.out W hW
          first | (go_simp; done) | (go_simp; with_reducible rfl)
        refine wpAnyH_take (i := 2) (v := ?_) rfl (by kernel_rfl) (by kernel_rfl) (by kernel_rfl) (fun _ _ _ h => h) (Yields.yieldsIf (Or.inl ⟨by kernel_rfl, ?_⟩)) hS ?_
        rotate_left
        · first | (intro w; go_simp; done) | (intro w; go_simp; with_reducible rfl)
        refine wpAnyH_take (i := 3) (v := ?_) rfl (by kernel_rfl) (by kernel_rfl) (by kernel_rfl) (fun _ _ _ h => h) (Yields.yieldsIf (Or.inl ⟨by kernel_rfl, ?_⟩)) hS ?_
        rotate_left
        · first | (intro w; go_simp; done) | (intro w; go_simp; with_reducible rfl)
        refine wpAnyH_take (i := 4) (v := ?_) rfl (by kernel_rfl) (by kernel_rfl) (by kernel_rfl) (fun _ _ _ h => h) (Or.inl ⟨by kernel_rfl, fun W hW => ?_⟩) hS ?_
        rotate_left
        · obtain ⟨c0, c1⟩ := HC.out W hW
          first | (go_simp; done) | (go_simp; with_reducible rfl)
        try go_simp
        refine wpAnyH_ready (rs := [5]) (by kernel_rfl) (by simp) ?_
        refine AllReadyH.cons rfl (fun K hK => ?_) AllReadyH.nil
        go_simp
        go_wp2_with fail
        try rw [HN.out]
        refine (at_any c s ((HRow.out _ (HS0.out)).1) (HRow.out _ HS0.out).2).mono ?_
        rintro e wc ⟨rfl, hbc⟩
        have HCc := Lib.hid (HS0.out.trans (hbc.mono HS0.out.size))
        rw [HAt.out]
        clear hbc
        have hS3 : Below W1.heap.size W1 wc := HCc.out
        refine hK.out _ _ hS3 (fun hS => ?_)
        clear hK K hS3
        refine wpAnyH_take (i := 6) (v := ?_) rfl (by kernel_rfl) (by kernel_rfl) (by kernel_rfl) (fun _ _ _ h => h) (Yields.yieldsIf (Or.inl ⟨by kernel_rfl, ?_⟩)) hS ?_
        rotate_left
        · first | (intro w; go_simp; done) | (intro w; go_simp; with_reducible rfl)
        refine wpAnyH_take (i := 7) (v := ?_) rfl (by kernel_rfl) (by kernel_rfl) (by kernel_rfl) (fun _ _ _ h => h) (Yields.yieldsIf (Or.inl ⟨by kernel_rfl, ?_⟩)) hS ?_
        rotate_left
        · first | (intro w; go_simp; done) | (intro w; go_simp; with_reducible rfl)
        try go_simp
        refine wpAnyH_done (by kernel_rfl) ?_ _
        go_wp2
        go_ret2
        exact ⟨⟨none, 0, by rw [HO.out]; rfl, by rw [HO.out]; exact nil_ok _ _, blk_none _⟩, HW1.out _ hS⟩
theorem with_any {A : Option Addr} {l : List D} {c : Nat} (s : ByteArray) (n : Int) {w : World} (hx : Vc.ok ⟨A, c, l⟩ w w.heap.size) : Calls Try.prog 88 #[.slice A l.length c, .agg #[.string s, .int .i64 n]] w fun e w' => VecR e w' (withO l (s, n)) ∧ Below w.heap.size w w' :=
  (with_fresh s n hx).mono fun e w' h => ⟨h.1.r, h.2⟩
end Go.Proofs.Ytdffifkleaekhaa.V
