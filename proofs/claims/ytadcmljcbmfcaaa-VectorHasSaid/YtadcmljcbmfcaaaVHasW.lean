/-
  VectorHas: the walk of the law.
-/
import Derived.Test.YtadcmljcbmfcaaaVGate
namespace Go.Proofs.Ytadcmljcbmfcaaa.vectorHas
open Go.RowKit Go.Proofs.Ytadcmljcbmfcaaa.V
set_option linter.unusedVariables false
set_option linter.unusedSimpArgs false

theorem eq_below {w w' : World} (h : w = w') : Below w.heap.size w w' := by rw [h]; exact Below.refl _ _
set_option maxRecDepth 100000 in
set_option maxHeartbeats 3200000 in
theorem walk (x : Vc) (s : ByteArray) (n : Int) (w : World) (hx : x.ok w w.heap.size) (hfit : Fit x.l) (hs : s.size ≤ 9223372036854775807) : Calls Try.prog 3 #[.slice x.A x.l.length x.c, .agg #[.string s, .int .i64 n]] w fun e w' => e = .returned (.bool true) ∧ Below w.heap.size w w' := by
  obtain ⟨A, c, l⟩ := x
  simp only at *
  have hb1 : Below w.heap.size w (w.alloc (.cells #[.string s, .int .i64 n] 24)) := (Below.refl _ w).alloc (Nat.le_refl _) _
  have ht1 : Two (w.alloc (.cells #[.string s, .int .i64 n] 24)) w.heap.size (.string s) (.int .i64 n) := Two.new w _ _
  obtain ⟨L, hL⟩ : ∃ L, l.length = L := ⟨_, rfl⟩
  have HN := Lib.hid hL.symm
  obtain ⟨nm, hnm⟩ : ∃ R, nameB s = R := ⟨_, rfl⟩
  obtain ⟨rv, hrv⟩ : ∃ R, rightB l = R := ⟨_, rfl⟩
  obtain ⟨av, hav⟩ : ∃ R, at' l s = R := ⟨_, rfl⟩
  obtain ⟨ha, hha⟩ : ∃ R, hasB l (s, n) = R := ⟨_, rfl⟩
  have HNM := Lib.hid hnm
  have HRV := Lib.hid hrv
  have HAT := Lib.hid hav
  have HHA := Lib.hid hha
  have HFit := Lib.hid (And.intro (And.intro hfit hx.2.2.2) hs)
  have q1 : (nm == nm) = true := by simp
  have q2 : (rv == rv) = true := by simp
  have q3 : (av == av) = true := by simp
  have q4 : (ha == ha) = true := by simp
  rw [hL]
  obtain ⟨W1, hW1⟩ : ∃ W1, w.alloc (.cells #[.string s, .int .i64 n] 24) = W1 := ⟨_, rfl⟩
  have HWE := Lib.hid hW1
  rw [hW1] at hb1 ht1
  have HRow : Hid (∀ W, Below W1.heap.size W1 W → RowD W W.heap.size A l) := fun W hW => (hx.1.up hb1).up hW
  have HC : Hid (∀ W, Below W1.heap.size W1 W → W.cell? ⟨w.heap.size, 0, none⟩ = some (.string s) ∧ W.cell? ⟨w.heap.size, 1, none⟩ = some (.int .i64 n)) := fun W hW => ⟨(ht1.below hW ht1.lt).c0, (ht1.below hW ht1.lt).c1⟩
  have HW1 : Hid (∀ W, Below W1.heap.size W1 W → Below w.heap.size w W) := fun W hW => hb1.trans (hW.mono hb1.size)
  clear hnm hrv hav hha hfit hs hx hL hW1 hb1 ht1
  go_enter Try.func3, Try.ntmps3
  go_wp2_with fail
  rw [HWE.out]
  refine (shown_any _).mono ?_
  rintro e w2 ⟨rfl, hb2⟩
  have HX : Hid (Below W1.heap.size W1 w2.drew) := hb2.drew
  clear hb2
  go_upto_region 2 with fail
  refine wp_region_held_drew (S := fun Wv => Below W1.heap.size W1 Wv) (by kernel_rfl) HX.out (fun hS => ?_)
  generalize w2.drew = wd at *
  refine wpAnyH_take (i := 0) (v := ?_) rfl (by kernel_rfl) (by kernel_rfl) (by kernel_rfl) (fun _ _ _ h => h) (Yields.yieldsIf (Or.inl ⟨by kernel_rfl, ?_⟩)) hS ?_
  rotate_left
  · first | (intro w; go_simp; done) | (intro w; go_simp; with_reducible rfl)
  refine wpAnyH_take (i := 1) (v := ?_) rfl (by kernel_rfl) (by kernel_rfl) (by kernel_rfl) (fun _ _ _ h => h) (Yields.yieldsIf (Or.inl ⟨by kernel_rfl, ?_⟩)) hS ?_
  rotate_left
  · first | (intro w; go_simp; done) | (intro w; go_simp; with_reducible rfl)
  refine wpAnyH_take (i := 2) (v := ?_) rfl (by kernel_rfl) (by kernel_rfl) (by kernel_rfl) (fun _ _ _ h => h) (Yields.yieldsIf (Or.inl ⟨by kernel_rfl, ?_⟩)) hS ?_
  rotate_left
  · first | (intro w; go_simp; done) | (intro w; go_simp; with_reducible rfl)
  refine wpAnyH_take (i := 3) (v := ?_) rfl (by kernel_rfl) (by kernel_rfl) (by kernel_rfl) (fun _ _ _ h => h) (Or.inl ⟨by kernel_rfl, fun W hW => ?_⟩) hS ?_
  rotate_left
  · obtain ⟨c0, c1⟩ := HC.out W hW
    first | (go_simp; done) | (go_simp; with_reducible rfl)
  refine wpAnyH_take (i := 5) (v := ?_) rfl (by kernel_rfl) (by kernel_rfl) (by kernel_rfl) (fun _ _ _ h => h) (Yields.yieldsIf (Or.inl ⟨by kernel_rfl, ?_⟩)) hS ?_
  rotate_left
  · first | (intro w; go_simp; done) | (intro w; go_simp; with_reducible rfl)
  refine wpAnyH_take (i := 6) (v := ?_) rfl (by kernel_rfl) (by kernel_rfl) (by kernel_rfl) (fun _ _ _ h => h) (Or.inl ⟨by kernel_rfl, fun W hW => ?_⟩) hS ?_
  rotate_left
  · obtain ⟨c0, c1⟩ := HC.out W hW
    first | (go_simp; done) | (go_simp; with_reducible rfl)
  try go_simp
  refine wpAnyH_ready (rs := [4]) (by kernel_rfl) (by simp) ?_
  refine AllReadyH.cons rfl (fun K hK => ?_) AllReadyH.nil
  go_simp
  go_wp2_with fail
  try rw [HN.out]
  refine (isName_any s _).mono ?_
  rintro e wa ⟨rfl, hba⟩
  rw [HNM.out]
  have HX2 := Lib.hid (HX.out.trans (hba.mono HX.out.size))
  clear HX hba
  have HX := HX2
  clear HX2
  have hS3 : Below W1.heap.size W1 wa := HX.out
  refine hK.out _ _ hS3 (fun hS => ?_)
  clear hK K hS3
  try go_simp
  refine wpAnyH_ready (rs := [7]) (by kernel_rfl) (by simp) ?_
  refine AllReadyH.cons rfl (fun K hK => ?_) AllReadyH.nil
  go_simp
  go_wp2_with fail
  try rw [HN.out]
  refine (risName_any s _ HFit.out.2).mono ?_
  rintro e wb ⟨rfl, hbb⟩
  rw [HNM.out]
  have HX2 := Lib.hid (HX.out.trans ((eq_below hbb).mono HX.out.size))
  clear HX hbb
  have HX := HX2
  clear HX2
  have hS3 : Below W1.heap.size W1 wb := HX.out
  refine hK.out _ _ hS3 (fun hS => ?_)
  clear hK K hS3
  refine wpAnyH_take (i := 8) (v := ?_) rfl (by kernel_rfl) (by kernel_rfl) (by kernel_rfl) (fun _ _ _ h => h) (Yields.yieldsIf (Or.inl ⟨by kernel_rfl, ?_⟩)) hS ?_
  rotate_left
  · first | (intro w; go_simp; done) | (intro w; go_simp; with_reducible rfl)
  refine wpAnyH_take (i := 9) (v := ?_) rfl (by kernel_rfl) (by kernel_rfl) (by kernel_rfl) (fun _ _ _ h => h) (Yields.yieldsIf (Or.inl ⟨by kernel_rfl, ?_⟩)) hS ?_
  rotate_left
  · first | (intro w; go_simp; done) | (intro w; go_simp; with_reducible rfl)
  refine wpAnyH_take (i := 10) (v := ?_) rfl (by kernel_rfl) (by kernel_rfl) (by kernel_rfl) (fun _ _ _ h => h) (Yields.yieldsIf (Or.inl ⟨by kernel_rfl, ?_⟩)) hS ?_
  rotate_left
  · first | (intro w; go_simp; done) | (intro w; go_simp; with_reducible rfl)
  refine wpAnyH_take (i := 11) (v := ?_) rfl (by kernel_rfl) (by kernel_rfl) (by kernel_rfl) (fun _ _ _ h => h) (Yields.yieldsIf (Or.inl ⟨by kernel_rfl, ?_⟩)) hS ?_
  rotate_left
  · first | (intro w; go_simp; done) | (intro w; go_simp; with_reducible rfl)
  refine wpAnyH_take (i := 13) (v := ?_) rfl (by kernel_rfl) (by kernel_rfl) (by kernel_rfl) (fun _ _ _ h => h) (Yields.yieldsIf (Or.inl ⟨by kernel_rfl, ?_⟩)) hS ?_
  rotate_left
  · first | (intro w; go_simp; done) | (intro w; go_simp; with_reducible rfl)
  try go_simp
  refine wpAnyH_ready (rs := [12]) (by kernel_rfl) (by simp) ?_
  refine AllReadyH.cons rfl (fun K hK => ?_) AllReadyH.nil
  go_simp
  go_wp2_with fail
  try rw [HN.out]
  refine (right_any c (HRow.out _ HX.out) HFit.out.1.2).mono ?_
  rintro e wc ⟨rfl, hbc⟩
  rw [HRV.out]
  have HX2 := Lib.hid (HX.out.trans (hbc.mono HX.out.size))
  clear HX hbc
  have HX := HX2
  clear HX2
  have hS3 : Below W1.heap.size W1 wc := HX.out
  refine hK.out _ _ hS3 (fun hS => ?_)
  clear hK K hS3
  try go_simp
  refine wpAnyH_ready (rs := [14]) (by kernel_rfl) (by simp) ?_
  refine AllReadyH.cons rfl (fun K hK => ?_) AllReadyH.nil
  go_simp
  go_wp2_with fail
  try rw [HN.out]
  refine (rright_any c (HRow.out _ HX.out) HFit.out.1.2 HFit.out.1.1).mono ?_
  rintro e wd ⟨rfl, hbd⟩
  rw [HRV.out]
  have HX2 := Lib.hid (HX.out.trans (hbd.mono HX.out.size))
  clear HX hbd
  have HX := HX2
  clear HX2
  have hS3 : Below W1.heap.size W1 wd := HX.out
  refine hK.out _ _ hS3 (fun hS => ?_)
  clear hK K hS3
  refine wpAnyH_take (i := 15) (v := ?_) rfl (by kernel_rfl) (by kernel_rfl) (by kernel_rfl) (fun _ _ _ h => h) (Yields.yieldsIf (Or.inl ⟨by kernel_rfl, ?_⟩)) hS ?_
  rotate_left
  · first | (intro w; go_simp; done) | (intro w; go_simp; with_reducible rfl)
  refine wpAnyH_take (i := 16) (v := ?_) rfl (by kernel_rfl) (by kernel_rfl) (by kernel_rfl) (fun _ _ _ h => h) (Yields.yieldsIf (Or.inl ⟨by kernel_rfl, ?_⟩)) hS ?_
  rotate_left
  · first | (intro w; go_simp; done) | (intro w; go_simp; with_reducible rfl)
  refine wpAnyH_take (i := 17) (v := ?_) rfl (by kernel_rfl) (by kernel_rfl) (by kernel_rfl) (fun _ _ _ h => h) (Yields.yieldsIf (Or.inl ⟨by kernel_rfl, ?_⟩)) hS ?_
  rotate_left
  · first | (intro w; go_simp; done) | (intro w; go_simp; with_reducible rfl)
  refine wpAnyH_take (i := 18) (v := ?_) rfl (by kernel_rfl) (by kernel_rfl) (by kernel_rfl) (fun _ _ _ h => h) (Yields.yieldsIf (Or.inl ⟨by kernel_rfl, ?_⟩)) hS ?_
  rotate_left
  · first | (intro w; go_simp; done) | (intro w; go_simp; with_reducible rfl)
  refine wpAnyH_take (i := 19) (v := ?_) rfl (by kernel_rfl) (by kernel_rfl) (by kernel_rfl) (fun _ _ _ h => h) (Yields.yieldsIf (Or.inl ⟨by kernel_rfl, ?_⟩)) hS ?_
  rotate_left
  · first | (intro w; go_simp; done) | (intro w; go_simp; with_reducible rfl)
  refine wpAnyH_take (i := 20) (v := ?_) rfl (by kernel_rfl) (by kernel_rfl) (by kernel_rfl) (fun _ _ _ h => h) (Or.inl ⟨by kernel_rfl, fun W hW => ?_⟩) hS ?_
  rotate_left
  · obtain ⟨c0, c1⟩ := HC.out W hW
    first | (go_simp; done) | (go_simp; with_reducible rfl)
  refine wpAnyH_take (i := 22) (v := ?_) rfl (by kernel_rfl) (by kernel_rfl) (by kernel_rfl) (fun _ _ _ h => h) (Yields.yieldsIf (Or.inl ⟨by kernel_rfl, ?_⟩)) hS ?_
  rotate_left
  · first | (intro w; go_simp; done) | (intro w; go_simp; with_reducible rfl)
  refine wpAnyH_take (i := 23) (v := ?_) rfl (by kernel_rfl) (by kernel_rfl) (by kernel_rfl) (fun _ _ _ h => h) (Yields.yieldsIf (Or.inl ⟨by kernel_rfl, ?_⟩)) hS ?_
  rotate_left
  · first | (intro w; go_simp; done) | (intro w; go_simp; with_reducible rfl)
  refine wpAnyH_take (i := 24) (v := ?_) rfl (by kernel_rfl) (by kernel_rfl) (by kernel_rfl) (fun _ _ _ h => h) (Or.inl ⟨by kernel_rfl, fun W hW => ?_⟩) hS ?_
  rotate_left
  · obtain ⟨c0, c1⟩ := HC.out W hW
    first | (go_simp; done) | (go_simp; with_reducible rfl)
  try go_simp
  refine wpAnyH_ready (rs := [21]) (by kernel_rfl) (by simp) ?_
  refine AllReadyH.cons rfl (fun K hK => ?_) AllReadyH.nil
  go_simp
  go_wp2_with fail
  try rw [HN.out]
  refine (at_any c s (HRow.out _ HX.out) HFit.out.1.2).mono ?_
  rintro e we ⟨rfl, hbe⟩
  rw [HAT.out]
  have HX2 := Lib.hid (HX.out.trans (hbe.mono HX.out.size))
  clear HX hbe
  have HX := HX2
  clear HX2
  have hS3 : Below W1.heap.size W1 we := HX.out
  refine hK.out _ _ hS3 (fun hS => ?_)
  clear hK K hS3
  try go_simp
  refine wpAnyH_ready (rs := [25]) (by kernel_rfl) (by simp) ?_
  refine AllReadyH.cons rfl (fun K hK => ?_) AllReadyH.nil
  go_simp
  go_wp2_with fail
  try rw [HN.out]
  refine (rat_any c s (HRow.out _ HX.out) HFit.out.1.2).mono ?_
  rintro e wf ⟨rfl, hbf⟩
  rw [HAT.out]
  have HX2 := Lib.hid (HX.out.trans ((eq_below hbf).mono HX.out.size))
  clear HX hbf
  have HX := HX2
  clear HX2
  have hS3 : Below W1.heap.size W1 wf := HX.out
  refine hK.out _ _ hS3 (fun hS => ?_)
  clear hK K hS3
  refine wpAnyH_take (i := 26) (v := ?_) rfl (by kernel_rfl) (by kernel_rfl) (by kernel_rfl) (fun _ _ _ h => h) (Yields.yieldsIf (Or.inl ⟨by kernel_rfl, ?_⟩)) hS ?_
  rotate_left
  · first | (intro w; go_simp; done) | (intro w; go_simp; with_reducible rfl)
  refine wpAnyH_take (i := 27) (v := ?_) rfl (by kernel_rfl) (by kernel_rfl) (by kernel_rfl) (fun _ _ _ h => h) (Yields.yieldsIf (Or.inl ⟨by kernel_rfl, ?_⟩)) hS ?_
  rotate_left
  · first | (intro w; go_simp; done) | (intro w; go_simp; with_reducible rfl)
  refine wpAnyH_take (i := 28) (v := ?_) rfl (by kernel_rfl) (by kernel_rfl) (by kernel_rfl) (fun _ _ _ h => h) (Yields.yieldsIf (Or.inl ⟨by kernel_rfl, ?_⟩)) hS ?_
  rotate_left
  · first | (intro w; go_simp; done) | (intro w; go_simp; with_reducible rfl)
  refine wpAnyH_take (i := 29) (v := ?_) rfl (by kernel_rfl) (by kernel_rfl) (by kernel_rfl) (fun _ _ _ h => h) (Yields.yieldsIf (Or.inl ⟨by kernel_rfl, ?_⟩)) hS ?_
  rotate_left
  · first | (intro w; go_simp; done) | (intro w; go_simp; with_reducible rfl)
  refine wpAnyH_take (i := 30) (v := ?_) rfl (by kernel_rfl) (by kernel_rfl) (by kernel_rfl) (fun _ _ _ h => h) (Or.inl ⟨by kernel_rfl, fun W hW => ?_⟩) hS ?_
  rotate_left
  · obtain ⟨c0, c1⟩ := HC.out W hW
    first | (go_simp; done) | (go_simp; with_reducible rfl)
  refine wpAnyH_take (i := 32) (v := ?_) rfl (by kernel_rfl) (by kernel_rfl) (by kernel_rfl) (fun _ _ _ h => h) (Yields.yieldsIf (Or.inl ⟨by kernel_rfl, ?_⟩)) hS ?_
  rotate_left
  · first | (intro w; go_simp; done) | (intro w; go_simp; with_reducible rfl)
  refine wpAnyH_take (i := 33) (v := ?_) rfl (by kernel_rfl) (by kernel_rfl) (by kernel_rfl) (fun _ _ _ h => h) (Or.inl ⟨by kernel_rfl, fun W hW => ?_⟩) hS ?_
  rotate_left
  · obtain ⟨c0, c1⟩ := HC.out W hW
    first | (go_simp; done) | (go_simp; with_reducible rfl)
  try go_simp
  refine wpAnyH_ready (rs := [31]) (by kernel_rfl) (by simp) ?_
  refine AllReadyH.cons rfl (fun K hK => ?_) AllReadyH.nil
  go_simp
  go_wp2_with fail
  try rw [HN.out]
  refine (has_any c s n (HRow.out _ HX.out) HFit.out.1.2).mono ?_
  rintro e wg ⟨rfl, hbg⟩
  rw [HHA.out]
  have HX2 := Lib.hid (HX.out.trans (hbg.mono HX.out.size))
  clear HX hbg
  have HX := HX2
  clear HX2
  have hS3 : Below W1.heap.size W1 wg := HX.out
  refine hK.out _ _ hS3 (fun hS => ?_)
  clear hK K hS3
  try go_simp
  refine wpAnyH_ready (rs := [34]) (by kernel_rfl) (by simp) ?_
  refine AllReadyH.cons rfl (fun K hK => ?_) AllReadyH.nil
  go_simp
  go_wp2_with fail
  try rw [HN.out]
  refine (rhas_any c s n (HRow.out _ HX.out) HFit.out.1.2 HFit.out.1.1 HFit.out.2).mono ?_
  rintro e wh ⟨rfl, hbh⟩
  rw [HHA.out]
  have HX2 := Lib.hid (HX.out.trans (hbh.mono HX.out.size))
  clear HX hbh
  have HX := HX2
  clear HX2
  have hS3 : Below W1.heap.size W1 wh := HX.out
  refine hK.out _ _ hS3 (fun hS => ?_)
  clear hK K hS3
  refine wpAnyH_take (i := 35) (v := ?_) rfl (by kernel_rfl) (by kernel_rfl) (by kernel_rfl) (fun _ _ _ h => h) (Yields.yieldsIf (Or.inl ⟨by kernel_rfl, ?_⟩)) hS ?_
  rotate_left
  · first | (intro w; go_simp; done) | (intro w; go_simp; with_reducible rfl)
  refine wpAnyH_take (i := 36) (v := ?_) rfl (by kernel_rfl) (by kernel_rfl) (by kernel_rfl) (fun _ _ _ h => h) (Yields.yieldsIf (Or.inl ⟨by kernel_rfl, ?_⟩)) hS ?_
  rotate_left
  · first | (intro w; go_simp; done) | (intro w; go_simp; with_reducible rfl)
  refine wpAnyH_take (i := 37) (v := ?_) rfl (by kernel_rfl) (by kernel_rfl) (by kernel_rfl) (fun _ _ _ h => h) (Yields.yieldsIf (Or.inl ⟨by kernel_rfl, ?_⟩)) hS ?_
  rotate_left
  · first | (intro w; go_simp; done) | (intro w; go_simp; with_reducible rfl)
  try go_simp
  refine wpAnyH_done (by kernel_rfl) ?_ _
  go_wp2
  go_ret
  exact ⟨rfl, HW1.out _ hS⟩
end Go.Proofs.Ytadcmljcbmfcaaa.vectorHas
