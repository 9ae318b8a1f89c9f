/-
  The small functions: rightPlace, rightName, rightQty, before, hasRoom.
-/
import Derived.Test.YtdffifkleaekhaaPMath
import Derived.Test.YtdffifkleaekhaaOEv
import Derived.OrdersHeld
import Derived.Deep.RegionHeld
import Derived.Deep.QuietTactic
import Derived.Deep.RegionWith
import Derived.Lib.Hide
namespace Go.Proofs.Ytdffifkleaekhaa.O
open Go.RowKit Go.Proofs.Ytdffifkleaekhaa.V
set_option linter.unusedVariables false
set_option linter.unusedSimpArgs false

set_option maxRecDepth 100000 in
theorem rightName_any (t : ByteArray) (w : World) : Calls Try.prog 51 #[.string t] w fun e w' => e = .returned (.bool (sizeB t)) ∧ Below w.heap.size w w' := by
  have hS : sizeB t = (decide (1 ≤ t.size) && decide (t.size ≤ 32)) := rfl
  have HB := Lib.hid (Below.refl w.heap.size w)
  rw [hS]
  clear hS
  by_cases h1 : 1 ≤ t.size
  · by_cases h2 : t.size ≤ 32
    all_goals
      go_enter Try.func51, Try.ntmps51
      go_wp2
      go_ret
      exact ⟨ret_bool (by simp [h1, h2]; try omega), HB.out⟩
  · go_enter Try.func51, Try.ntmps51
    go_wp2
    go_ret
    exact ⟨ret_bool (by simp [h1]; try omega), HB.out⟩

set_option maxRecDepth 100000 in
set_option maxHeartbeats 1600000 in
theorem before_any (a b : D) (w : World) : Calls Try.prog 84 #[.agg #[.string a.1, .int .i64 a.2], .agg #[.string b.1, .int .i64 b.2]] w fun e w' => e = .returned (.bool (aheadB a b)) ∧ Below w.heap.size w w' := by
  obtain ⟨s, n⟩ := a
  obtain ⟨t, m⟩ := b
  have HB2 := Lib.hid (((Below.refl _ w).alloc (Nat.le_refl _) (.cells #[.string s, .int .i64 n] 23)).alloc (by simp) (.cells #[.string t, .int .i64 m] 23))
  obtain ⟨X, hX⟩ : ∃ X, Op.bytesLess s.toList t.toList = X := ⟨_, rfl⟩
  obtain ⟨E, hE⟩ : ∃ E, decide (s = t) = E := ⟨_, rfl⟩
  have heq : (s.toList == t.toList) = E := by rw [eq_str, hE]
  have hD : aheadB (s, n) (t, m) = (X || E && decide (n < m)) := by unfold aheadB ltA; simp only; rw [hX, hE]
  rw [hD]
  simp only
  clear hD hE
  cases X with
  | true =>
    go_enter Try.func84, Try.ntmps84
    go_wp2
    go_ret
    exact ⟨ret_bool (by simp), HB2.out⟩
  | false =>
    cases E with
    | true =>
      by_cases hn : n < m
      all_goals
        go_enter Try.func84, Try.ntmps84
        go_wp2
        go_ret
        exact ⟨ret_bool (by simp [hn]), HB2.out⟩
    | false =>
      go_enter Try.func84, Try.ntmps84
      go_wp2
      go_ret
      exact ⟨ret_bool (by simp), HB2.out⟩

set_option maxRecDepth 100000 in
set_option maxHeartbeats 3200000 in
theorem rightQty_any (x : Ov) {w : World} (hx : x.ok w w.heap.size) : Calls Try.prog 52 #[x.v] w fun e w' => e = .returned (.bool (qtyB x.o)) ∧ Below w.heap.size w w' := by
  have hb1 : Below w.heap.size w (w.alloc (.cells x.cells 26)) := (Below.refl _ w).alloc (Nat.le_refl _) _
  have hop : ∀ W, Below (w.alloc (.cells x.cells 26)).heap.size (w.alloc (.cells x.cells 26)) W → Op8.Cells W w.heap.size x := fun W hW => ((Op8.new w x).below hW (by simp)).at
  have hdd : ∀ W, Below (w.alloc (.cells x.cells 26)).heap.size (w.alloc (.cells x.cells 26)) W → x.ok W W.heap.size := fun W hW => (hx.up hb1).up hW
  obtain ⟨⟨⟨s, n⟩, dp, ct, kd, it, q, sn⟩, A, c, A2, c2⟩ := x
  have HF := Lib.hid hx.fit
  clear hx
  simp only [Ov.v, Ov.cells] at hop hb1 hdd ⊢
  obtain ⟨a1, ha1⟩ : ∃ L, dp.length = L := ⟨_, rfl⟩
  obtain ⟨a2, ha2⟩ : ∃ L, sn.length = L := ⟨_, rfl⟩
  have HL := Lib.hid (And.intro ha1 ha2)
  rw [ha1, ha2] at hop hb1 hdd ⊢
  obtain ⟨W1, hW1⟩ : ∃ W1, w.alloc (.cells #[.string s, .int .i64 n, .slice A a1 c, .string ct, .int .i64 kd, .string it, .int .i64 q, .slice A2 a2 c2] 26) = W1 := ⟨_, rfl⟩
  have HWE := Lib.hid hW1
  rw [hW1] at hop hb1 hdd
  have HC : Hid (∀ W, Below W1.heap.size W1 W → (W.cell? ⟨w.heap.size, 0, none⟩ = some (.string s) ∧ W.cell? ⟨w.heap.size, 1, none⟩ = some (.int .i64 n) ∧ W.cell? ⟨w.heap.size, 2, none⟩ = some (.slice A a1 c)) ∧ W.cell? ⟨w.heap.size, 3, none⟩ = some (.string ct) ∧ W.cell? ⟨w.heap.size, 4, none⟩ = some (.int .i64 kd) ∧ W.cell? ⟨w.heap.size, 5, none⟩ = some (.string it) ∧ W.cell? ⟨w.heap.size, 6, none⟩ = some (.int .i64 q) ∧ W.cell? ⟨w.heap.size, 7, none⟩ = some (.slice A2 a2 c2)) := fun W hW => by
    obtain ⟨c0, c1, c2_, c3, c4, c5, c6, c7⟩ := hop W hW
    simp only at c0 c1 c2_ c3 c4 c5 c6 c7
    rw [ha1] at c2_; rw [ha2] at c7
    exact ⟨⟨c0, c1, c2_⟩, c3, c4, c5, c6, c7⟩
  have HB1 : Hid (∀ W, Below W1.heap.size W1 W → Below w.heap.size w W) := fun W hW => hb1.trans (hW.mono hb1.size)
  have HDR : Hid (∀ W, Below W1.heap.size W1 W → Vc.ok ⟨A, c, dp⟩ W W.heap.size ∧ Vc.ok ⟨A2, c2, sn⟩ W W.heap.size) := fun W hW => ⟨(hdd W hW).d, (hdd W hW).s⟩
  have hRw : Below W1.heap.size W1 W1 := Below.refl _ _
  clear hop hb1 hdd hW1 ha1 ha2
  have hQ : qtyB ⟨(s, n), dp, ct, kd, it, q, sn⟩ = (if kd = 1 ∨ kd = 2 then decide (1 ≤ q) && decide (q ≤ 9999) else if kd = 3 then decide (q = 0) else false) := rfl
  obtain ⟨QB, hQB⟩ : ∃ X, qtyB ⟨(s, n), dp, ct, kd, it, q, sn⟩ = X := ⟨_, rfl⟩
  rw [hQB] at hQ ⊢
  have HQ := Lib.hid hQ
  clear hQ hQB
  obtain ⟨⟨c0, c1, c2_⟩, c3, c4, c5, c6, c7⟩ := HC.out _ hRw
  have HW := Lib.hid hRw
  clear hRw
  go_enter Try.func52, Try.ntmps52
  go_upto_region 1 with fail
  rw [HWE.out]
  by_cases k1 : kd = 1
  · subst k1
    by_cases q1 : 1 ≤ q
    · by_cases q2 : q ≤ 9999
      all_goals
        go_wp2
        go_ret
        exact ⟨ret_bool (by rw [HQ.out]; simp [q1, q2]; try (intros; omega)), HB1.out _ HW.out⟩
    · go_wp2
      go_ret
      exact ⟨ret_bool (by rw [HQ.out]; simp [q1]; try (intros; omega)), HB1.out _ HW.out⟩
  · have e1 : (kd == 1) = false := by simp [k1]
    by_cases k2 : kd = 2
    · subst k2
      by_cases q1 : 1 ≤ q
      · by_cases q2 : q ≤ 9999
        all_goals
          go_wp2
          go_ret
          exact ⟨ret_bool (by rw [HQ.out]; simp [q1, q2]; try (intros; omega)), HB1.out _ HW.out⟩
      · go_wp2
        go_ret
        exact ⟨ret_bool (by rw [HQ.out]; simp [q1]; try (intros; omega)), HB1.out _ HW.out⟩
    · have e2 : (kd == 2) = false := by simp [k2]
      by_cases k3 : kd = 3
      · subst k3
        obtain ⟨Z, hZ⟩ : ∃ Z, (q == 0) = Z := ⟨_, rfl⟩
        have hz2 : Hid (decide (q = 0) = Z) := by rw [← hZ]; rfl
        go_wp2
        go_ret
        exact ⟨ret_bool (by rw [HQ.out, hz2.out]; simp), HB1.out _ HW.out⟩
      · have e3 : (kd == 3) = false := by simp [k3]
        go_wp2
        go_ret
        exact ⟨ret_bool (by rw [HQ.out]; simp [k1, k2, k3]), HB1.out _ HW.out⟩

set_option maxRecDepth 100000 in
set_option maxHeartbeats 3200000 in
theorem rightPlace_any (x : Ov) {w : World} (hx : x.ok w w.heap.size) : Calls Try.prog 50 #[x.v] w fun e w' => e = .returned (.bool (placeB x.o)) ∧ Below w.heap.size w w' := by
  have hb1 : Below w.heap.size w (w.alloc (.cells x.cells 26)) := (Below.refl _ w).alloc (Nat.le_refl _) _
  have hop : ∀ W, Below (w.alloc (.cells x.cells 26)).heap.size (w.alloc (.cells x.cells 26)) W → Op8.Cells W w.heap.size x := fun W hW => ((Op8.new w x).below hW (by simp)).at
  have hdd : ∀ W, Below (w.alloc (.cells x.cells 26)).heap.size (w.alloc (.cells x.cells 26)) W → x.ok W W.heap.size := fun W hW => (hx.up hb1).up hW
  obtain ⟨⟨⟨s, n⟩, dp, ct, kd, it, q, sn⟩, A, c, A2, c2⟩ := x
  have HF := Lib.hid hx.fit
  clear hx
  simp only [Ov.v, Ov.cells] at hop hb1 hdd ⊢
  obtain ⟨a1, ha1⟩ : ∃ L, dp.length = L := ⟨_, rfl⟩
  obtain ⟨a2, ha2⟩ : ∃ L, sn.length = L := ⟨_, rfl⟩
  have HL := Lib.hid (And.intro ha1 ha2)
  rw [ha1, ha2] at hop hb1 hdd ⊢
  obtain ⟨W1, hW1⟩ : ∃ W1, w.alloc (.cells #[.string s, .int .i64 n, .slice A a1 c, .string ct, .int .i64 kd, .string it, .int .i64 q, .slice A2 a2 c2] 26) = W1 := ⟨_, rfl⟩
  have HWE := Lib.hid hW1
  rw [hW1] at hop hb1 hdd
  have HC : Hid (∀ W, Below W1.heap.size W1 W → (W.cell? ⟨w.heap.size, 0, none⟩ = some (.string s) ∧ W.cell? ⟨w.heap.size, 1, none⟩ = some (.int .i64 n) ∧ W.cell? ⟨w.heap.size, 2, none⟩ = some (.slice A a1 c)) ∧ W.cell? ⟨w.heap.size, 3, none⟩ = some (.string ct) ∧ W.cell? ⟨w.heap.size, 4, none⟩ = some (.int .i64 kd) ∧ W.cell? ⟨w.heap.size, 5, none⟩ = some (.string it) ∧ W.cell? ⟨w.heap.size, 6, none⟩ = some (.int .i64 q) ∧ W.cell? ⟨w.heap.size, 7, none⟩ = some (.slice A2 a2 c2)) := fun W hW => by
    obtain ⟨c0, c1, c2_, c3, c4, c5, c6, c7⟩ := hop W hW
    simp only at c0 c1 c2_ c3 c4 c5 c6 c7
    rw [ha1] at c2_; rw [ha2] at c7
    exact ⟨⟨c0, c1, c2_⟩, c3, c4, c5, c6, c7⟩
  have HB1 : Hid (∀ W, Below W1.heap.size W1 W → Below w.heap.size w W) := fun W hW => hb1.trans (hW.mono hb1.size)
  have HDR : Hid (∀ W, Below W1.heap.size W1 W → Vc.ok ⟨A, c, dp⟩ W W.heap.size ∧ Vc.ok ⟨A2, c2, sn⟩ W W.heap.size) := fun W hW => ⟨(hdd W hW).d, (hdd W hW).s⟩
  have hRw : Below W1.heap.size W1 W1 := Below.refl _ _
  clear hop hb1 hdd hW1 ha1 ha2
  have hP : placeB ⟨(s, n), dp, ct, kd, it, q, sn⟩ = (dotB (s, n) && rightB dp && decide (at' dp s = n - 1)) := by rw [← rightB_one]; rfl
  rw [hP]
  obtain ⟨Dv, hDv⟩ : ∃ X, dotB (s, n) = X := ⟨_, rfl⟩
  obtain ⟨R, hR⟩ : ∃ X, rightB dp = X := ⟨_, rfl⟩
  obtain ⟨V, hV⟩ : ∃ X, at' dp s = X := ⟨_, rfl⟩
  rw [hDv, hR, hV]
  have H1 : Hid (rightB [(s, n)] = Dv) := (rightB_one _).trans hDv
  have H2 := Lib.hid hR
  have H3 := Lib.hid hV
  have HV : Hid (Dv = true → R = true → 1 ≤ n ∧ n ≤ 4611686018427387904) := fun e _ => by rw [← hDv] at e; have h := dotB_iff.1 e; simp only at h; exact h.2
  clear hP hDv hR hV
  have HS := Lib.hid hRw.drew
  clear hRw
  have hr1 : ∀ (W : World), Calls Try.prog 70 #[.slice (some ⟨W.heap.size, 0, none⟩) 1 1] (W.alloc (.cells #[.string s, .int .i64 n] 23)) fun e w' => e = .returned (.bool Dv) ∧ Below W.heap.size W w' := fun W => by
    have h0 := one_ok W s n
    have h1 := right_any (A := some ⟨W.heap.size, 0, none⟩) (l := [(s, n)]) 1 h0.1 (by simp)
    rw [H1.out] at h1
    exact h1.mono fun e w' h => ⟨h.1, ((Below.refl _ W).alloc (Nat.le_refl _) _).trans (h.2.mono (by simp))⟩
  have hr2 : ∀ W, Below W1.heap.size W1 W → Calls Try.prog 70 #[.slice A a1 c] W fun e w' => e = .returned (.bool R) ∧ Below W.heap.size W w' := fun W hW => by
    have h1 := right_any c (HDR.out _ hW).1.1 (HDR.out _ hW).1.2.2.2
    rw [H2.out] at h1
    have h2 := HL.out.1
    simp only at h1
    rw [h2] at h1
    exact h1
  have hr3 : ∀ W, Below W1.heap.size W1 W → Calls Try.prog 71 #[.slice A a1 c, .string s] W fun e w' => e = .returned (.int .i64 V) ∧ Below W.heap.size W w' := fun W hW => by
    have h1 := at_any c s (HDR.out _ hW).1.1 (HDR.out _ hW).1.2.2.2
    rw [H3.out] at h1
    have h2 := HL.out.1
    simp only at h1
    rw [h2] at h1
    exact h1
  have HR := Lib.hid (And.intro hr1 (And.intro hr2 hr3))
  clear hr1 hr2 hr3
  go_enter Try.func50, Try.ntmps50
  go_upto_region 1 with fail
  rw [HWE.out]
  refine wp_region_held_drew (S := fun Wv => Below W1.heap.size W1 Wv) (by kernel_rfl) HS.out (fun hS => ?_)
  generalize W1.drew = Wd at *
  cases Dv with
  | false =>
    refine wpAnyH_take (i := 0) (v := ?_) rfl (by kernel_rfl) (by kernel_rfl) (by kernel_rfl) (fun _ _ _ h => h) (Yields.yieldsIf (Or.inl ⟨by kernel_rfl, ?_⟩)) hS ?_
    rotate_left
    · first | (intro w; go_simp; done) | (intro w; go_simp; with_reducible rfl)
    refine wpAnyH_take (i := 1) (v := ?_) rfl (by kernel_rfl) (by kernel_rfl) (by kernel_rfl) (fun _ _ _ h => h) (Or.inl ⟨by kernel_rfl, fun W hW => ?_⟩) hS ?_
    rotate_left
    · obtain ⟨⟨c0, c1, c2_⟩, c3, c4, c5, c6, c7⟩ := HC.out W hW
      first | (go_simp; done) | (go_simp; with_reducible rfl)
    refine wpAnyH_ready (rs := [2]) (by kernel_rfl) (by simp) ?_
    refine AllReadyH.cons rfl (fun K hK => ?_) AllReadyH.nil
    go_simp
    have hS3 : Below W1.heap.size W1 (Wd.alloc (.cells #[.string s, .int .i64 n] 23)) := HS.out.alloc HS.out.size _
    refine hK.out _ _ hS3 (fun hS => ?_)
    clear hK K hS3
    refine wpAnyH_ready (rs := [3]) (by kernel_rfl) (by simp) ?_
    refine AllReadyH.cons rfl (fun K hK => ?_) AllReadyH.nil
    go_simp
    go_wp2_with (go_at_call 70; refine (HR.out.1 _).mono ?_; rintro e wa4 ⟨rfl, hba⟩)
    have H4 := Lib.hid (HS.out.trans (hba.mono HS.out.size))
    clear hba
    have hS3 : Below W1.heap.size W1 wa4 := H4.out
    refine hK.out _ _ hS3 (fun hS => ?_)
    clear hK K hS3
    refine wpAnyH_take (i := 4) (v := ?_) rfl (by kernel_rfl) (by kernel_rfl) (by kernel_rfl) (fun _ _ _ h => h) (Yields.yieldsIf (Or.inl ⟨by kernel_rfl, ?_⟩)) hS ?_
    rotate_left
    · first | (intro w; go_simp; done) | (intro w; go_simp; with_reducible rfl)
    refine wpAnyH_take (i := 5) (v := undef) rfl (by kernel_rfl) (by kernel_rfl) (by kernel_rfl) (fun _ _ _ h => h) (Or.inr ⟨by kernel_rfl, rfl⟩) hS ?_
    refine wpAnyH_take (i := 6) (v := undef) rfl (by kernel_rfl) (by kernel_rfl) (by kernel_rfl) (fun _ _ _ h => h) (Or.inr ⟨by kernel_rfl, rfl⟩) hS ?_
    refine wpAnyH_take (i := 7) (v := undef) rfl (by kernel_rfl) (by kernel_rfl) (by kernel_rfl) (fun _ _ _ h => h) (Or.inr ⟨by kernel_rfl, rfl⟩) hS ?_
    refine wpAnyH_take (i := 8) (v := ?_) rfl (by kernel_rfl) (by kernel_rfl) (by kernel_rfl) (fun _ _ _ h => h) (Yields.yieldsIf (Or.inl ⟨by kernel_rfl, ?_⟩)) hS ?_
    rotate_left
    · first | (intro w; go_simp; done) | (intro w; go_simp; with_reducible rfl)
    refine wpAnyH_take (i := 9) (v := ?_) rfl (by kernel_rfl) (by kernel_rfl) (by kernel_rfl) (fun _ _ _ h => h) (Yields.yieldsIf (Or.inl ⟨by kernel_rfl, ?_⟩)) hS ?_
    rotate_left
    · first | (intro w; go_simp; done) | (intro w; go_simp; with_reducible rfl)
    refine wpAnyH_take (i := 10) (v := undef) rfl (by kernel_rfl) (by kernel_rfl) (by kernel_rfl) (fun _ _ _ h => h) (Or.inr ⟨by kernel_rfl, rfl⟩) hS ?_
    refine wpAnyH_take (i := 11) (v := undef) rfl (by kernel_rfl) (by kernel_rfl) (by kernel_rfl) (fun _ _ _ h => h) (Or.inr ⟨by kernel_rfl, rfl⟩) hS ?_
    refine wpAnyH_take (i := 12) (v := undef) rfl (by kernel_rfl) (by kernel_rfl) (by kernel_rfl) (fun _ _ _ h => h) (Or.inr ⟨by kernel_rfl, rfl⟩) hS ?_
    refine wpAnyH_take (i := 13) (v := undef) rfl (by kernel_rfl) (by kernel_rfl) (by kernel_rfl) (fun _ _ _ h => h) (Or.inr ⟨by kernel_rfl, rfl⟩) hS ?_
    refine wpAnyH_take (i := 14) (v := undef) rfl (by kernel_rfl) (by kernel_rfl) (by kernel_rfl) (fun _ _ _ h => h) (Or.inr ⟨by kernel_rfl, rfl⟩) hS ?_
    refine wpAnyH_take (i := 15) (v := undef) rfl (by kernel_rfl) (by kernel_rfl) (by kernel_rfl) (fun _ _ _ h => h) (Or.inr ⟨by kernel_rfl, rfl⟩) hS ?_
    refine wpAnyH_take (i := 16) (v := undef) rfl (by kernel_rfl) (by kernel_rfl) (by kernel_rfl) (fun _ _ _ h => h) (Or.inr ⟨by kernel_rfl, rfl⟩) hS ?_
    refine wpAnyH_take (i := 17) (v := undef) rfl (by kernel_rfl) (by kernel_rfl) (by kernel_rfl) (fun _ _ _ h => h) (Or.inr ⟨by kernel_rfl, rfl⟩) hS ?_
    refine wpAnyH_take (i := 18) (v := undef) rfl (by kernel_rfl) (by kernel_rfl) (by kernel_rfl) (fun _ _ _ h => h) (Or.inr ⟨by kernel_rfl, rfl⟩) hS ?_
    refine wpAnyH_take (i := 19) (v := undef) rfl (by kernel_rfl) (by kernel_rfl) (by kernel_rfl) (fun _ _ _ h => h) (Or.inr ⟨by kernel_rfl, rfl⟩) hS ?_
    refine wpAnyH_take (i := 20) (v := undef) rfl (by kernel_rfl) (by kernel_rfl) (by kernel_rfl) (fun _ _ _ h => h) (Or.inr ⟨by kernel_rfl, rfl⟩) hS ?_
    go_simp
    refine wpAnyH_take (i := 21) (v := ?_) rfl (by kernel_rfl) (by kernel_rfl) (by kernel_rfl) (fun _ _ _ h => h) (Yields.yieldsIf (Or.inl ⟨by kernel_rfl, ?_⟩)) hS ?_
    rotate_left
    · first | (intro w; go_simp; done) | (intro w; go_simp; with_reducible rfl)
    refine wpAnyH_take (i := 22) (v := ?_) rfl (by kernel_rfl) (by kernel_rfl) (by kernel_rfl) (fun _ _ _ h => h) (Yields.yieldsIf (Or.inl ⟨by kernel_rfl, ?_⟩)) hS ?_
    rotate_left
    · first | (intro w; go_simp; done) | (intro w; go_simp; with_reducible rfl)
    go_simp
    try go_simp
    refine wpAnyH_done (by kernel_rfl) ?_ _
    go_wp2
    go_ret
    exact ⟨ret_bool (by simp), HB1.out _ H4.out⟩
  | true =>
    cases R with
    | false =>
      refine wpAnyH_take (i := 0) (v := ?_) rfl (by kernel_rfl) (by kernel_rfl) (by kernel_rfl) (fun _ _ _ h => h) (Yields.yieldsIf (Or.inl ⟨by kernel_rfl, ?_⟩)) hS ?_
      rotate_left
      · first | (intro w; go_simp; done) | (intro w; go_simp; with_reducible rfl)
      refine wpAnyH_take (i := 1) (v := ?_) rfl (by kernel_rfl) (by kernel_rfl) (by kernel_rfl) (fun _ _ _ h => h) (Or.inl ⟨by kernel_rfl, fun W hW => ?_⟩) hS ?_
      rotate_left
      · obtain ⟨⟨c0, c1, c2_⟩, c3, c4, c5, c6, c7⟩ := HC.out W hW
        first | (go_simp; done) | (go_simp; with_reducible rfl)
      refine wpAnyH_ready (rs := [2]) (by kernel_rfl) (by simp) ?_
      refine AllReadyH.cons rfl (fun K hK => ?_) AllReadyH.nil
      go_simp
      have hS3 : Below W1.heap.size W1 (Wd.alloc (.cells #[.string s, .int .i64 n] 23)) := HS.out.alloc HS.out.size _
      refine hK.out _ _ hS3 (fun hS => ?_)
      clear hK K hS3
      refine wpAnyH_ready (rs := [3]) (by kernel_rfl) (by simp) ?_
      refine AllReadyH.cons rfl (fun K hK => ?_) AllReadyH.nil
      go_simp
      go_wp2_with (go_at_call 70; refine (HR.out.1 _).mono ?_; rintro e wa4 ⟨rfl, hba⟩)
      have H4 := Lib.hid (HS.out.trans (hba.mono HS.out.size))
      clear hba
      have hS3 : Below W1.heap.size W1 wa4 := H4.out
      refine hK.out _ _ hS3 (fun hS => ?_)
      clear hK K hS3
      refine wpAnyH_take (i := 4) (v := ?_) rfl (by kernel_rfl) (by kernel_rfl) (by kernel_rfl) (fun _ _ _ h => h) (Yields.yieldsIf (Or.inl ⟨by kernel_rfl, ?_⟩)) hS ?_
      rotate_left
      · first | (intro w; go_simp; done) | (intro w; go_simp; with_reducible rfl)
      refine wpAnyH_take (i := 5) (v := ?_) rfl (by kernel_rfl) (by kernel_rfl) (by kernel_rfl) (fun _ _ _ h => h) (Yields.yieldsIf (Or.inl ⟨by kernel_rfl, ?_⟩)) hS ?_
      rotate_left
      · first | (intro w; go_simp; done) | (intro w; go_simp; with_reducible rfl)
      refine wpAnyH_take (i := 6) (v := ?_) rfl (by kernel_rfl) (by kernel_rfl) (by kernel_rfl) (fun _ _ _ h => h) (Or.inl ⟨by kernel_rfl, fun W hW => ?_⟩) hS ?_
      rotate_left
      · obtain ⟨⟨c0, c1, c2_⟩, c3, c4, c5, c6, c7⟩ := HC.out W hW
        first | (go_simp; done) | (go_simp; with_reducible rfl)
      refine wpAnyH_ready (rs := [7]) (by kernel_rfl) (by simp) ?_
      refine AllReadyH.cons rfl (fun K hK => ?_) AllReadyH.nil
      go_simp
      go_wp2_with (go_at_call 70; refine (HR.out.2.1 _ H4.out).mono ?_; rintro e wa5 ⟨rfl, hba⟩)
      have H5 := Lib.hid (H4.out.trans (hba.mono H4.out.size))
      clear hba
      have hS3 : Below W1.heap.size W1 wa5 := H5.out
      refine hK.out _ _ hS3 (fun hS => ?_)
      clear hK K hS3
      refine wpAnyH_take (i := 8) (v := ?_) rfl (by kernel_rfl) (by kernel_rfl) (by kernel_rfl) (fun _ _ _ h => h) (Yields.yieldsIf (Or.inl ⟨by kernel_rfl, ?_⟩)) hS ?_
      rotate_left
      · first | (intro w; go_simp; done) | (intro w; go_simp; with_reducible rfl)
      refine wpAnyH_take (i := 9) (v := ?_) rfl (by kernel_rfl) (by kernel_rfl) (by kernel_rfl) (fun _ _ _ h => h) (Yields.yieldsIf (Or.inl ⟨by kernel_rfl, ?_⟩)) hS ?_
      rotate_left
      · first | (intro w; go_simp; done) | (intro w; go_simp; with_reducible rfl)
      refine wpAnyH_take (i := 10) (v := undef) rfl (by kernel_rfl) (by kernel_rfl) (by kernel_rfl) (fun _ _ _ h => h) (Or.inr ⟨by kernel_rfl, rfl⟩) hS ?_
      refine wpAnyH_take (i := 11) (v := undef) rfl (by kernel_rfl) (by kernel_rfl) (by kernel_rfl) (fun _ _ _ h => h) (Or.inr ⟨by kernel_rfl, rfl⟩) hS ?_
      refine wpAnyH_take (i := 12) (v := undef) rfl (by kernel_rfl) (by kernel_rfl) (by kernel_rfl) (fun _ _ _ h => h) (Or.inr ⟨by kernel_rfl, rfl⟩) hS ?_
      refine wpAnyH_take (i := 13) (v := undef) rfl (by kernel_rfl) (by kernel_rfl) (by kernel_rfl) (fun _ _ _ h => h) (Or.inr ⟨by kernel_rfl, rfl⟩) hS ?_
      refine wpAnyH_take (i := 14) (v := undef) rfl (by kernel_rfl) (by kernel_rfl) (by kernel_rfl) (fun _ _ _ h => h) (Or.inr ⟨by kernel_rfl, rfl⟩) hS ?_
      refine wpAnyH_take (i := 15) (v := undef) rfl (by kernel_rfl) (by kernel_rfl) (by kernel_rfl) (fun _ _ _ h => h) (Or.inr ⟨by kernel_rfl, rfl⟩) hS ?_
      refine wpAnyH_take (i := 16) (v := undef) rfl (by kernel_rfl) (by kernel_rfl) (by kernel_rfl) (fun _ _ _ h => h) (Or.inr ⟨by kernel_rfl, rfl⟩) hS ?_
      refine wpAnyH_take (i := 17) (v := undef) rfl (by kernel_rfl) (by kernel_rfl) (by kernel_rfl) (fun _ _ _ h => h) (Or.inr ⟨by kernel_rfl, rfl⟩) hS ?_
      refine wpAnyH_take (i := 18) (v := undef) rfl (by kernel_rfl) (by kernel_rfl) (by kernel_rfl) (fun _ _ _ h => h) (Or.inr ⟨by kernel_rfl, rfl⟩) hS ?_
      refine wpAnyH_take (i := 19) (v := undef) rfl (by kernel_rfl) (by kernel_rfl) (by kernel_rfl) (fun _ _ _ h => h) (Or.inr ⟨by kernel_rfl, rfl⟩) hS ?_
      refine wpAnyH_take (i := 20) (v := undef) rfl (by kernel_rfl) (by kernel_rfl) (by kernel_rfl) (fun _ _ _ h => h) (Or.inr ⟨by kernel_rfl, rfl⟩) hS ?_
      go_simp
      refine wpAnyH_take (i := 21) (v := ?_) rfl (by kernel_rfl) (by kernel_rfl) (by kernel_rfl) (fun _ _ _ h => h) (Yields.yieldsIf (Or.inl ⟨by kernel_rfl, ?_⟩)) hS ?_
      rotate_left
      · first | (intro w; go_simp; done) | (intro w; go_simp; with_reducible rfl)
      refine wpAnyH_take (i := 22) (v := ?_) rfl (by kernel_rfl) (by kernel_rfl) (by kernel_rfl) (fun _ _ _ h => h) (Yields.yieldsIf (Or.inl ⟨by kernel_rfl, ?_⟩)) hS ?_
      rotate_left
      · first | (intro w; go_simp; done) | (intro w; go_simp; with_reducible rfl)
      go_simp
      try go_simp
      refine wpAnyH_done (by kernel_rfl) ?_ _
      go_wp2
      go_ret
      exact ⟨ret_bool (by simp), HB1.out _ H5.out⟩
    | true =>
      have hn := HV.out rfl rfl
      have gw : IntKind.wrap .i64 (n - 1) = n - 1 := by rw [IntKind.wrap_i64]; omega
      obtain ⟨X, hX⟩ : ∃ X, decide (V = n - 1) = X := ⟨_, rfl⟩
      have hVX : (V == n - 1) = X := by rw [← hX]; rfl
      have HX := Lib.hid hX
      clear hX hn
      refine wpAnyH_take (i := 0) (v := ?_) rfl (by kernel_rfl) (by kernel_rfl) (by kernel_rfl) (fun _ _ _ h => h) (Yields.yieldsIf (Or.inl ⟨by kernel_rfl, ?_⟩)) hS ?_
      rotate_left
      · first | (intro w; go_simp; done) | (intro w; go_simp; with_reducible rfl)
      refine wpAnyH_take (i := 1) (v := ?_) rfl (by kernel_rfl) (by kernel_rfl) (by kernel_rfl) (fun _ _ _ h => h) (Or.inl ⟨by kernel_rfl, fun W hW => ?_⟩) hS ?_
      rotate_left
      · obtain ⟨⟨c0, c1, c2_⟩, c3, c4, c5, c6, c7⟩ := HC.out W hW
        first | (go_simp; done) | (go_simp; with_reducible rfl)
      refine wpAnyH_ready (rs := [2]) (by kernel_rfl) (by simp) ?_
      refine AllReadyH.cons rfl (fun K hK => ?_) AllReadyH.nil
      go_simp
      have hS3 : Below W1.heap.size W1 (Wd.alloc (.cells #[.string s, .int .i64 n] 23)) := HS.out.alloc HS.out.size _
      refine hK.out _ _ hS3 (fun hS => ?_)
      clear hK K hS3
      refine wpAnyH_ready (rs := [3]) (by kernel_rfl) (by simp) ?_
      refine AllReadyH.cons rfl (fun K hK => ?_) AllReadyH.nil
      go_simp
      go_wp2_with (go_at_call 70; refine (HR.out.1 _).mono ?_; rintro e wa4 ⟨rfl, hba⟩)
      have H4 := Lib.hid (HS.out.trans (hba.mono HS.out.size))
      clear hba
      have hS3 : Below W1.heap.size W1 wa4 := H4.out
      refine hK.out _ _ hS3 (fun hS => ?_)
      clear hK K hS3
      refine wpAnyH_take (i := 4) (v := ?_) rfl (by kernel_rfl) (by kernel_rfl) (by kernel_rfl) (fun _ _ _ h => h) (Yields.yieldsIf (Or.inl ⟨by kernel_rfl, ?_⟩)) hS ?_
      rotate_left
      · first | (intro w; go_simp; done) | (intro w; go_simp; with_reducible rfl)
      refine wpAnyH_take (i := 5) (v := ?_) rfl (by kernel_rfl) (by kernel_rfl) (by kernel_rfl) (fun _ _ _ h => h) (Yields.yieldsIf (Or.inl ⟨by kernel_rfl, ?_⟩)) hS ?_
      rotate_left
      · first | (intro w; go_simp; done) | (intro w; go_simp; with_reducible rfl)
      refine wpAnyH_take (i := 6) (v := ?_) rfl (by kernel_rfl) (by kernel_rfl) (by kernel_rfl) (fun _ _ _ h => h) (Or.inl ⟨by kernel_rfl, fun W hW => ?_⟩) hS ?_
      rotate_left
      · obtain ⟨⟨c0, c1, c2_⟩, c3, c4, c5, c6, c7⟩ := HC.out W hW
        first | (go_simp; done) | (go_simp; with_reducible rfl)
      refine wpAnyH_ready (rs := [7]) (by kernel_rfl) (by simp) ?_
      refine AllReadyH.cons rfl (fun K hK => ?_) AllReadyH.nil
      go_simp
      go_wp2_with (go_at_call 70; refine (HR.out.2.1 _ H4.out).mono ?_; rintro e wa5 ⟨rfl, hba⟩)
      have H5 := Lib.hid (H4.out.trans (hba.mono H4.out.size))
      clear hba
      have hS3 : Below W1.heap.size W1 wa5 := H5.out
      refine hK.out _ _ hS3 (fun hS => ?_)
      clear hK K hS3
      refine wpAnyH_take (i := 8) (v := ?_) rfl (by kernel_rfl) (by kernel_rfl) (by kernel_rfl) (fun _ _ _ h => h) (Yields.yieldsIf (Or.inl ⟨by kernel_rfl, ?_⟩)) hS ?_
      rotate_left
      · first | (intro w; go_simp; done) | (intro w; go_simp; with_reducible rfl)
      refine wpAnyH_take (i := 9) (v := ?_) rfl (by kernel_rfl) (by kernel_rfl) (by kernel_rfl) (fun _ _ _ h => h) (Yields.yieldsIf (Or.inl ⟨by kernel_rfl, ?_⟩)) hS ?_
      rotate_left
      · first | (intro w; go_simp; done) | (intro w; go_simp; with_reducible rfl)
      refine wpAnyH_take (i := 10) (v := ?_) rfl (by kernel_rfl) (by kernel_rfl) (by kernel_rfl) (fun _ _ _ h => h) (Yields.yieldsIf (Or.inl ⟨by kernel_rfl, ?_⟩)) hS ?_
      rotate_left
      · first | (intro w; go_simp; done) | (intro w; go_simp; with_reducible rfl)
      refine wpAnyH_take (i := 11) (v := ?_) rfl (by kernel_rfl) (by kernel_rfl) (by kernel_rfl) (fun _ _ _ h => h) (Or.inl ⟨by kernel_rfl, fun W hW => ?_⟩) hS ?_
      rotate_left
      · obtain ⟨⟨c0, c1, c2_⟩, c3, c4, c5, c6, c7⟩ := HC.out W hW
        first | (go_simp; done) | (go_simp; with_reducible rfl)
      refine wpAnyH_take (i := 12) (v := ?_) rfl (by kernel_rfl) (by kernel_rfl) (by kernel_rfl) (fun _ _ _ h => h) (Yields.yieldsIf (Or.inl ⟨by kernel_rfl, ?_⟩)) hS ?_
      rotate_left
      · first | (intro w; go_simp; done) | (intro w; go_simp; with_reducible rfl)
      refine wpAnyH_take (i := 13) (v := ?_) rfl (by kernel_rfl) (by kernel_rfl) (by kernel_rfl) (fun _ _ _ h => h) (Yields.yieldsIf (Or.inl ⟨by kernel_rfl, ?_⟩)) hS ?_
      rotate_left
      · first | (intro w; go_simp; done) | (intro w; go_simp; with_reducible rfl)
      refine wpAnyH_take (i := 14) (v := ?_) rfl (by kernel_rfl) (by kernel_rfl) (by kernel_rfl) (fun _ _ _ h => h) (Or.inl ⟨by kernel_rfl, fun W hW => ?_⟩) hS ?_
      rotate_left
      · obtain ⟨⟨c0, c1, c2_⟩, c3, c4, c5, c6, c7⟩ := HC.out W hW
        first | (go_simp; done) | (go_simp; with_reducible rfl)
      refine wpAnyH_take (i := 16) (v := ?_) rfl (by kernel_rfl) (by kernel_rfl) (by kernel_rfl) (fun _ _ _ h => h) (Yields.yieldsIf (Or.inl ⟨by kernel_rfl, ?_⟩)) hS ?_
      rotate_left
      · first | (intro w; go_simp; done) | (intro w; go_simp; with_reducible rfl)
      refine wpAnyH_take (i := 17) (v := ?_) rfl (by kernel_rfl) (by kernel_rfl) (by kernel_rfl) (fun _ _ _ h => h) (Yields.yieldsIf (Or.inl ⟨by kernel_rfl, ?_⟩)) hS ?_
      rotate_left
      · first | (intro w; go_simp; done) | (intro w; go_simp; with_reducible rfl)
      refine wpAnyH_take (i := 18) (v := ?_) rfl (by kernel_rfl) (by kernel_rfl) (by kernel_rfl) (fun _ _ _ h => h) (Or.inl ⟨by kernel_rfl, fun W hW => ?_⟩) hS ?_
      rotate_left
      · obtain ⟨⟨c0, c1, c2_⟩, c3, c4, c5, c6, c7⟩ := HC.out W hW
        first | (go_simp; done) | (go_simp; with_reducible rfl)
      refine wpAnyH_take (i := 19) (v := ?_) rfl (by kernel_rfl) (by kernel_rfl) (by kernel_rfl) (fun _ _ _ h => h) (Yields.yieldsIf (Or.inl ⟨by kernel_rfl, ?_⟩)) hS ?_
      rotate_left
      · first | (intro w; go_simp; done) | (intro w; go_simp; with_reducible rfl)
      refine wpAnyH_ready (rs := [15]) (by kernel_rfl) (by simp) ?_
      refine AllReadyH.cons rfl (fun K hK => ?_) AllReadyH.nil
      go_simp
      go_wp2_with (go_at_call 71; refine (HR.out.2.2 _ H5.out).mono ?_; rintro e wa6 ⟨rfl, hba⟩)
      have H6 := Lib.hid (H5.out.trans (hba.mono H5.out.size))
      clear hba
      have hS3 : Below W1.heap.size W1 wa6 := H6.out
      refine hK.out _ _ hS3 (fun hS => ?_)
      clear hK K hS3
      refine wpAnyH_take (i := 20) (v := ?_) rfl (by kernel_rfl) (by kernel_rfl) (by kernel_rfl) (fun _ _ _ h => h) (Yields.yieldsIf (Or.inl ⟨by kernel_rfl, ?_⟩)) hS ?_
      rotate_left
      · first | (intro w; go_simp; done) | (intro w; go_simp; with_reducible rfl)
      refine wpAnyH_take (i := 21) (v := ?_) rfl (by kernel_rfl) (by kernel_rfl) (by kernel_rfl) (fun _ _ _ h => h) (Yields.yieldsIf (Or.inl ⟨by kernel_rfl, ?_⟩)) hS ?_
      rotate_left
      · first | (intro w; go_simp; done) | (intro w; go_simp; with_reducible rfl)
      refine wpAnyH_take (i := 22) (v := ?_) rfl (by kernel_rfl) (by kernel_rfl) (by kernel_rfl) (fun _ _ _ h => h) (Yields.yieldsIf (Or.inl ⟨by kernel_rfl, ?_⟩)) hS ?_
      rotate_left
      · first | (intro w; go_simp; done) | (intro w; go_simp; with_reducible rfl)
      refine wpAnyH_done (by kernel_rfl) ?_ _
      go_wp2
      go_ret
      exact ⟨ret_bool (by rw [HX.out]; simp), HB1.out _ H6.out⟩

end Go.Proofs.Ytdffifkleaekhaa.O
