/-
  hasRoom, deliverable.
-/
import Derived.Test.YtdffifkleaekhaaPPool
import Derived.OrdersHeld
import Derived.Deep.RegionHeld
import Derived.Lib.Hide
namespace Go.Proofs.Ytdffifkleaekhaa.O
open Go.RowKit Go.Proofs.Ytdffifkleaekhaa.V
set_option linter.unusedVariables false
set_option linter.unusedSimpArgs false

set_option maxRecDepth 100000 in
set_option maxHeartbeats 3200000 in
theorem hasRoom_any {p : Pv} {w : World} {b : Nat} (h : p.At w b) (s : ByteArray) (n : Int) : Calls Try.prog 60 #[.pointer (some ⟨b, 0, none⟩), .agg #[.string s, .int .i64 n]] w fun e w' => e = .returned (.bool (roomB p.K (s, n))) ∧ Below w.heap.size w w' := by
  have hb1 : Below w.heap.size w (w.alloc (.cells #[.string s, .int .i64 n] 23)) := (Below.refl _ w).alloc (Nat.le_refl _) _
  have ht1 : Two (w.alloc (.cells #[.string s, .int .i64 n] 23)) w.heap.size (.string s) (.int .i64 n) := Two.new w _ _
  have HR : roomB p.K (s, n) = (decide (p.K.length < 64) || decide (0 < at' p.K s)) := rfl
  obtain ⟨RB, hRB⟩ : ∃ X, roomB p.K (s, n) = X := ⟨_, rfl⟩
  rw [hRB] at HR ⊢
  obtain ⟨V, hV⟩ : ∃ V, at' p.K s = V := ⟨_, rfl⟩
  obtain ⟨L, hL⟩ : ∃ L, p.K.length = L := ⟨_, rfl⟩
  rw [hV, hL] at HR
  have HRB := Lib.hid HR
  have HN := Lib.hid (And.intro hV hL)
  have hbl := h.box.lt
  obtain ⟨W1, hW1⟩ : ∃ W1, w.alloc (.cells #[.string s, .int .i64 n] 23) = W1 := ⟨_, rfl⟩
  have HWE := Lib.hid hW1
  rw [hW1] at hb1 ht1
  have hb3 := h.box
  rw [hL] at hb3
  have HC : Hid (∀ W, Below W1.heap.size W1 W → W.cell? ⟨w.heap.size, 0, none⟩ = some (.string s) ∧ W.cell? ⟨w.heap.size, 1, none⟩ = some (.int .i64 n) ∧ W.cell? ⟨b, 3, none⟩ = some (.slice p.Ak L p.ck)) := fun W hW =>
    ⟨(ht1.below hW ht1.lt).c0, (ht1.below hW ht1.lt).c1, (hb3.below (hb1.trans (hW.mono hb1.size)) hbl).at.c3⟩
  have HCA : Hid (∀ W, Below W1.heap.size W1 W → Calls Try.prog 71 #[.slice p.Ak L p.ck, .string s] W fun e w' => e = .returned (.int .i64 V) ∧ Below W.heap.size W w') := fun W hW => by
    have h1 := at_any p.ck s ((h.k.up hb1).up hW).1 h.k.2.2.2
    simp only at h1
    rw [hV, hL] at h1
    exact h1
  have HW1 : Hid (∀ W, Below W1.heap.size W1 W → Below w.heap.size w W) := fun W hW => hb1.trans (hW.mono hb1.size)
  have HS : Hid (Below W1.heap.size W1 W1.drew) := (Below.refl _ W1).drew
  obtain ⟨Ak, hAk⟩ : ∃ A, p.Ak = A := ⟨_, rfl⟩
  obtain ⟨ck, hck⟩ : ∃ A, p.ck = A := ⟨_, rfl⟩
  rw [hAk, hck] at HC HCA
  clear hW1 hb1 ht1 hb3 HR hV hL hRB hbl h
  go_enter Try.func60, Try.ntmps60
  go_upto_region 1 with fail
  rw [HWE.out]
  by_cases h64 : L < 64
  · have e0 : (L : Int) < 64 := by omega
    refine wp_region_held_drew (S := fun Wv => Below W1.heap.size W1 Wv) (by kernel_rfl) HS.out (fun hS => ?_)
    generalize W1.drew = Wd at *
    refine wpAnyH_take (i := 0) (v := ?_) rfl (by kernel_rfl) (by kernel_rfl) (by kernel_rfl) (fun _ _ _ h => h) (Yields.yieldsIf (Or.inl ⟨by kernel_rfl, ?_⟩)) hS ?_
    rotate_left
    · first | (intro w; go_simp; done) | (intro w; go_simp; with_reducible rfl)
    refine wpAnyH_take (i := 1) (v := ?_) rfl (by kernel_rfl) (by kernel_rfl) (by kernel_rfl) (fun _ _ _ h => h) (Yields.yieldsIf (Or.inl ⟨by kernel_rfl, ?_⟩)) hS ?_
    rotate_left
    · first | (intro w; go_simp; done) | (intro w; go_simp; with_reducible rfl)
    refine wpAnyH_take (i := 2) (v := ?_) rfl (by kernel_rfl) (by kernel_rfl) (by kernel_rfl) (fun _ _ _ h => h) (Yields.yieldsIf (Or.inl ⟨by kernel_rfl, ?_⟩)) hS ?_
    rotate_left
    · first | (intro w; go_simp; done) | (intro w; go_simp; with_reducible rfl)
    refine wpAnyH_take (i := 3) (v := ?_) rfl (by kernel_rfl) (by kernel_rfl) (by kernel_rfl) (fun _ _ _ h => h) (Or.inl ⟨by kernel_rfl, fun W hW => ?_⟩) hS ?_
    rotate_left
    · obtain ⟨c0, c1, c3⟩ := HC.out W hW
      first | (go_simp; done) | (go_simp; with_reducible rfl)
    refine wpAnyH_take (i := 4) (v := ?_) rfl (by kernel_rfl) (by kernel_rfl) (by kernel_rfl) (fun _ _ _ h => h) (Yields.yieldsIf (Or.inl ⟨by kernel_rfl, ?_⟩)) hS ?_
    rotate_left
    · first | (intro w; go_simp; done) | (intro w; go_simp; with_reducible rfl)
    refine wpAnyH_take (i := 5) (v := ?_) rfl (by kernel_rfl) (by kernel_rfl) (by kernel_rfl) (fun _ _ _ h => h) (Yields.yieldsIf (Or.inl ⟨by kernel_rfl, ?_⟩)) hS ?_
    rotate_left
    · first | (intro w; go_simp; done) | (intro w; go_simp; with_reducible rfl)
    refine wpAnyH_take (i := 6) (v := ?_) rfl (by kernel_rfl) (by kernel_rfl) (by kernel_rfl) (fun _ _ _ h => h) (Yields.yieldsIf (Or.inl ⟨by kernel_rfl, ?_⟩)) hS ?_
    rotate_left
    · first | (intro w; go_simp; done) | (intro w; go_simp; with_reducible rfl)
    refine wpAnyH_take (i := 7) (v := undef) rfl (by kernel_rfl) (by kernel_rfl) (by kernel_rfl) (fun _ _ _ h => h) (Or.inr ⟨by kernel_rfl, rfl⟩) hS ?_
    refine wpAnyH_take (i := 8) (v := undef) rfl (by kernel_rfl) (by kernel_rfl) (by kernel_rfl) (fun _ _ _ h => h) (Or.inr ⟨by kernel_rfl, rfl⟩) hS ?_
    refine wpAnyH_take (i := 9) (v := undef) rfl (by kernel_rfl) (by kernel_rfl) (by kernel_rfl) (fun _ _ _ h => h) (Or.inr ⟨by kernel_rfl, rfl⟩) hS ?_
    refine wpAnyH_take (i := 10) (v := undef) rfl (by kernel_rfl) (by kernel_rfl) (by kernel_rfl) (fun _ _ _ h => h) (Or.inr ⟨by kernel_rfl, rfl⟩) hS ?_
    refine wpAnyH_take (i := 11) (v := undef) rfl (by kernel_rfl) (by kernel_rfl) (by kernel_rfl) (fun _ _ _ h => h) (Or.inr ⟨by kernel_rfl, rfl⟩) hS ?_
    refine wpAnyH_take (i := 12) (v := undef) rfl (by kernel_rfl) (by kernel_rfl) (by kernel_rfl) (fun _ _ _ h => h) (Or.inr ⟨by kernel_rfl, rfl⟩) hS ?_
    refine wpAnyH_take (i := 13) (v := undef) rfl (by kernel_rfl) (by kernel_rfl) (by kernel_rfl) (fun _ _ _ h => h) (Or.inr ⟨by kernel_rfl, rfl⟩) hS ?_
    refine wpAnyH_take (i := 14) (v := undef) rfl (by kernel_rfl) (by kernel_rfl) (by kernel_rfl) (fun _ _ _ h => h) (Or.inr ⟨by kernel_rfl, rfl⟩) hS ?_
    go_simp
    refine wpAnyH_take (i := 15) (v := ?_) rfl (by kernel_rfl) (by kernel_rfl) (by kernel_rfl) (fun _ _ _ h => h) (Yields.yieldsIf (Or.inl ⟨by kernel_rfl, ?_⟩)) hS ?_
    rotate_left
    · first | (intro w; go_simp; done) | (intro w; go_simp; with_reducible rfl)
    refine wpAnyH_take (i := 16) (v := ?_) rfl (by kernel_rfl) (by kernel_rfl) (by kernel_rfl) (fun _ _ _ h => h) (Yields.yieldsIf (Or.inl ⟨by kernel_rfl, ?_⟩)) hS ?_
    rotate_left
    · first | (intro w; go_simp; done) | (intro w; go_simp; with_reducible rfl)
    go_simp
    refine wpAnyH_done (by kernel_rfl) ?_ _
    go_wp2
    go_ret
    exact ⟨ret_bool (by rw [HRB.out]; simp [h64]), HW1.out _ HS.out⟩
  · have e0 : ¬ (L : Int) < 64 := by omega
    obtain ⟨X, hX⟩ : ∃ X, decide (0 < V) = X := ⟨_, rfl⟩
    have HX : Hid (RB = X) := by show _ = _; rw [HRB.out, hX]; simp [h64]
    have HX2 := Lib.hid hX
    clear hX
    refine wp_region_held_drew (S := fun Wv => Below W1.heap.size W1 Wv) (by kernel_rfl) HS.out (fun hS => ?_)
    generalize W1.drew = Wd at *
    refine wpAnyH_take (i := 0) (v := ?_) rfl (by kernel_rfl) (by kernel_rfl) (by kernel_rfl) (fun _ _ _ h => h) (Yields.yieldsIf (Or.inl ⟨by kernel_rfl, ?_⟩)) hS ?_
    rotate_left
    · first | (intro w; go_simp; done) | (intro w; go_simp; with_reducible rfl)
    refine wpAnyH_take (i := 1) (v := ?_) rfl (by kernel_rfl) (by kernel_rfl) (by kernel_rfl) (fun _ _ _ h => h) (Yields.yieldsIf (Or.inl ⟨by kernel_rfl, ?_⟩)) hS ?_
    rotate_left
    · first | (intro w; go_simp; done) | (intro w; go_simp; with_reducible rfl)
    refine wpAnyH_take (i := 2) (v := ?_) rfl (by kernel_rfl) (by kernel_rfl) (by kernel_rfl) (fun _ _ _ h => h) (Yields.yieldsIf (Or.inl ⟨by kernel_rfl, ?_⟩)) hS ?_
    rotate_left
    · first | (intro w; go_simp; done) | (intro w; go_simp; with_reducible rfl)
    refine wpAnyH_take (i := 3) (v := ?_) rfl (by kernel_rfl) (by kernel_rfl) (by kernel_rfl) (fun _ _ _ h => h) (Or.inl ⟨by kernel_rfl, fun W hW => ?_⟩) hS ?_
    rotate_left
    · obtain ⟨c0, c1, c3⟩ := HC.out W hW
      first | (go_simp; done) | (go_simp; with_reducible rfl)
    refine wpAnyH_take (i := 4) (v := ?_) rfl (by kernel_rfl) (by kernel_rfl) (by kernel_rfl) (fun _ _ _ h => h) (Yields.yieldsIf (Or.inl ⟨by kernel_rfl, ?_⟩)) hS ?_
    rotate_left
    · first | (intro w; go_simp; done) | (intro w; go_simp; with_reducible rfl)
    refine wpAnyH_take (i := 5) (v := ?_) rfl (by kernel_rfl) (by kernel_rfl) (by kernel_rfl) (fun _ _ _ h => h) (Yields.yieldsIf (Or.inl ⟨by kernel_rfl, ?_⟩)) hS ?_
    rotate_left
    · first | (intro w; go_simp; done) | (intro w; go_simp; with_reducible rfl)
    refine wpAnyH_take (i := 6) (v := ?_) rfl (by kernel_rfl) (by kernel_rfl) (by kernel_rfl) (fun _ _ _ h => h) (Yields.yieldsIf (Or.inl ⟨by kernel_rfl, ?_⟩)) hS ?_
    rotate_left
    · first | (intro w; go_simp; done) | (intro w; go_simp; with_reducible rfl)
    refine wpAnyH_take (i := 7) (v := ?_) rfl (by kernel_rfl) (by kernel_rfl) (by kernel_rfl) (fun _ _ _ h => h) (Yields.yieldsIf (Or.inl ⟨by kernel_rfl, ?_⟩)) hS ?_
    rotate_left
    · first | (intro w; go_simp; done) | (intro w; go_simp; with_reducible rfl)
    refine wpAnyH_take (i := 8) (v := ?_) rfl (by kernel_rfl) (by kernel_rfl) (by kernel_rfl) (fun _ _ _ h => h) (Yields.yieldsIf (Or.inl ⟨by kernel_rfl, ?_⟩)) hS ?_
    rotate_left
    · first | (intro w; go_simp; done) | (intro w; go_simp; with_reducible rfl)
    refine wpAnyH_take (i := 9) (v := ?_) rfl (by kernel_rfl) (by kernel_rfl) (by kernel_rfl) (fun _ _ _ h => h) (Yields.yieldsIf (Or.inl ⟨by kernel_rfl, ?_⟩)) hS ?_
    rotate_left
    · first | (intro w; go_simp; done) | (intro w; go_simp; with_reducible rfl)
    refine wpAnyH_take (i := 10) (v := ?_) rfl (by kernel_rfl) (by kernel_rfl) (by kernel_rfl) (fun _ _ _ h => h) (Or.inl ⟨by kernel_rfl, fun W hW => ?_⟩) hS ?_
    rotate_left
    · obtain ⟨c0, c1, c3⟩ := HC.out W hW
      first | (go_simp; done) | (go_simp; with_reducible rfl)
    refine wpAnyH_take (i := 11) (v := ?_) rfl (by kernel_rfl) (by kernel_rfl) (by kernel_rfl) (fun _ _ _ h => h) (Yields.yieldsIf (Or.inl ⟨by kernel_rfl, ?_⟩)) hS ?_
    rotate_left
    · first | (intro w; go_simp; done) | (intro w; go_simp; with_reducible rfl)
    refine wpAnyH_take (i := 12) (v := ?_) rfl (by kernel_rfl) (by kernel_rfl) (by kernel_rfl) (fun _ _ _ h => h) (Or.inl ⟨by kernel_rfl, fun W hW => ?_⟩) hS ?_
    rotate_left
    · obtain ⟨c0, c1, c3⟩ := HC.out W hW
      first | (go_simp; done) | (go_simp; with_reducible rfl)
    refine wpAnyH_ready (rs := [13]) (by kernel_rfl) (by simp) ?_
    refine AllReadyH.cons rfl (fun K hK => ?_) AllReadyH.nil
    go_simp
    go_wp2_with (go_at_call 71; refine (HCA.out _ HS.out).mono ?_; rintro e wa4 ⟨rfl, hba⟩)
    have H4 := Lib.hid (HS.out.trans (hba.mono HS.out.size))
    clear hba
    have hS3 : Below W1.heap.size W1 wa4 := H4.out
    refine hK.out _ _ hS3 (fun hS => ?_)
    clear hK K hS3
    refine wpAnyH_take (i := 14) (v := ?_) rfl (by kernel_rfl) (by kernel_rfl) (by kernel_rfl) (fun _ _ _ h => h) (Yields.yieldsIf (Or.inl ⟨by kernel_rfl, ?_⟩)) hS ?_
    rotate_left
    · first | (intro w; go_simp; done) | (intro w; go_simp; with_reducible rfl)
    refine wpAnyH_take (i := 15) (v := ?_) rfl (by kernel_rfl) (by kernel_rfl) (by kernel_rfl) (fun _ _ _ h => h) (Yields.yieldsIf (Or.inl ⟨by kernel_rfl, ?_⟩)) hS ?_
    rotate_left
    · first | (intro w; go_simp; done) | (intro w; go_simp; with_reducible rfl)
    refine wpAnyH_take (i := 16) (v := ?_) rfl (by kernel_rfl) (by kernel_rfl) (by kernel_rfl) (fun _ _ _ h => h) (Yields.yieldsIf (Or.inl ⟨by kernel_rfl, ?_⟩)) hS ?_
    rotate_left
    · first | (intro w; go_simp; done) | (intro w; go_simp; with_reducible rfl)
    refine wpAnyH_done (by kernel_rfl) ?_ _
    go_wp2
    go_ret
    exact ⟨ret_bool (by rw [HX.out, ← HX2.out]), HW1.out _ H4.out⟩

set_option maxRecDepth 100000 in
set_option maxHeartbeats 3200000 in
theorem deliverable_any {p : Pv} {w : World} {b : Nat} (h : p.At w b) (x : Ov) (hx : x.ok w w.heap.size) : Calls Try.prog 61 #[.pointer (some ⟨b, 0, none⟩), x.v] w fun e w' => e = .returned (.bool (leqB x.o.deps p.K)) ∧ Below w.heap.size w w' := by
  have hx0 := hx
  have hb1 : Below w.heap.size w (w.alloc (.cells x.cells 26)) := (Below.refl _ w).alloc (Nat.le_refl _) _
  have hop : ∀ W, Below (w.alloc (.cells x.cells 26)).heap.size (w.alloc (.cells x.cells 26)) W → Op8.Cells W w.heap.size x := fun W hW => ((Op8.new w x).below hW (by simp)).at
  have hdd : ∀ W, Below (w.alloc (.cells x.cells 26)).heap.size (w.alloc (.cells x.cells 26)) W → x.ok W W.heap.size := fun W hW => (hx.up hb1).up hW
  obtain ⟨⟨⟨s, n⟩, dp, ct, kd, it, q, sn⟩, A, c, A2, c2⟩ := x
  have HF := Lib.hid hx.fit
  clear hx
  simp only [Ov.v, Ov.cells] at hop hb1 hdd ⊢
  obtain ⟨a1, ha1⟩ : ∃ L, dp.length = L := ⟨_, rfl⟩
  obtain ⟨a2, ha2⟩ : ∃ L, sn.length = L := ⟨_, rfl⟩
  have HL := Lib.hid (And.intro ha1 ha2)
  rw [ha1, ha2] at hop hb1 hdd ⊢
  obtain ⟨W1, hW1⟩ : ∃ W1, w.alloc (.cells #[.string s, .int .i64 n, .slice A a1 c, .string ct, .int .i64 kd, .string it, .int .i64 q, .slice A2 a2 c2] 26) = W1 := ⟨_, rfl⟩
  have HWE := Lib.hid hW1
  rw [hW1] at hop hb1 hdd
  have HC : Hid (∀ W, Below W1.heap.size W1 W → (W.cell? ⟨w.heap.size, 0, none⟩ = some (.string s) ∧ W.cell? ⟨w.heap.size, 1, none⟩ = some (.int .i64 n) ∧ W.cell? ⟨w.heap.size, 2, none⟩ = some (.slice A a1 c)) ∧ W.cell? ⟨w.heap.size, 3, none⟩ = some (.string ct) ∧ W.cell? ⟨w.heap.size, 4, none⟩ = some (.int .i64 kd) ∧ W.cell? ⟨w.heap.size, 5, none⟩ = some (.string it) ∧ W.cell? ⟨w.heap.size, 6, none⟩ = some (.int .i64 q) ∧ W.cell? ⟨w.heap.size, 7, none⟩ = some (.slice A2 a2 c2)) := fun W hW => by
    obtain ⟨c0, c1, c2_, c3, c4, c5, c6, c7⟩ := hop W hW
    simp only at c0 c1 c2_ c3 c4 c5 c6 c7
    rw [ha1] at c2_; rw [ha2] at c7
    exact ⟨⟨c0, c1, c2_⟩, c3, c4, c5, c6, c7⟩
  have HB1 : Hid (∀ W, Below W1.heap.size W1 W → Below w.heap.size w W) := fun W hW => hb1.trans (hW.mono hb1.size)
  have HDR : Hid (∀ W, Below W1.heap.size W1 W → Vc.ok ⟨A, c, dp⟩ W W.heap.size ∧ Vc.ok ⟨A2, c2, sn⟩ W W.heap.size) := fun W hW => ⟨(hdd W hW).d, (hdd W hW).s⟩
  have hRw : Below W1.heap.size W1 W1 := Below.refl _ _
  clear hop hb1 hdd hW1 ha1 ha2
  have hbl := h.box.lt
  obtain ⟨L, hL⟩ : ∃ L, p.K.length = L := ⟨_, rfl⟩
  have hb3 := h.box
  rw [hL] at hb3
  have HP : Hid (∀ W, Below W1.heap.size W1 W → W.cell? ⟨b, 3, none⟩ = some (.slice p.Ak L p.ck)) := fun W hW => (hb3.below (HB1.out W hW) hbl).at.c3
  have HCA : Hid (∀ W, Below W1.heap.size W1 W → Calls Try.prog 87 #[.slice A a1 c, .slice p.Ak L p.ck] W fun e w' => e = .returned (.bool (leqB dp p.K)) ∧ Below W.heap.size W w') := fun W hW => by
    have h1 := leq_any (HDR.out W hW).1 (h.k.up (HB1.out W hW))
    simp only [Vc.v] at h1
    have h2 := HL.out.1
    rw [hL, h2] at h1
    exact h1
  have HS : Hid (Below W1.heap.size W1 W1.drew) := (Below.refl _ W1).drew
  obtain ⟨R, hR⟩ : ∃ R, leqB dp p.K = R := ⟨_, rfl⟩
  rw [hR] at HCA ⊢
  obtain ⟨Ak, hAk⟩ : ∃ A, p.Ak = A := ⟨_, rfl⟩
  obtain ⟨ck, hck⟩ : ∃ A, p.ck = A := ⟨_, rfl⟩
  rw [hAk, hck] at HP HCA
  clear hbl hL hb3 hR h hx0
  go_enter Try.func61, Try.ntmps61
  go_upto_region 1 with fail
  rw [HWE.out]
  refine wp_region_held_drew (S := fun Wv => Below W1.heap.size W1 Wv) (by kernel_rfl) HS.out (fun hS => ?_)
  generalize W1.drew = Wd at *
  refine wpAnyH_take (i := 0) (v := ?_) rfl (by kernel_rfl) (by kernel_rfl) (by kernel_rfl) (fun _ _ _ h => h) (Yields.yieldsIf (Or.inl ⟨by kernel_rfl, ?_⟩)) hS ?_
  rotate_left
  · first | (intro w; go_simp; done) | (intro w; go_simp; with_reducible rfl)
  refine wpAnyH_take (i := 1) (v := ?_) rfl (by kernel_rfl) (by kernel_rfl) (by kernel_rfl) (fun _ _ _ h => h) (Or.inl ⟨by kernel_rfl, fun W hW => ?_⟩) hS ?_
  rotate_left
  · obtain ⟨⟨c0, c1, c2_⟩, c3, c4, c5, c6, c7⟩ := HC.out W hW; have d3 := HP.out W hW
    first | (go_simp; done) | (go_simp; with_reducible rfl)
  refine wpAnyH_take (i := 2) (v := ?_) rfl (by kernel_rfl) (by kernel_rfl) (by kernel_rfl) (fun _ _ _ h => h) (Yields.yieldsIf (Or.inl ⟨by kernel_rfl, ?_⟩)) hS ?_
  rotate_left
  · first | (intro w; go_simp; done) | (intro w; go_simp; with_reducible rfl)
  refine wpAnyH_take (i := 3) (v := ?_) rfl (by kernel_rfl) (by kernel_rfl) (by kernel_rfl) (fun _ _ _ h => h) (Yields.yieldsIf (Or.inl ⟨by kernel_rfl, ?_⟩)) hS ?_
  rotate_left
  · first | (intro w; go_simp; done) | (intro w; go_simp; with_reducible rfl)
  refine wpAnyH_take (i := 4) (v := ?_) rfl (by kernel_rfl) (by kernel_rfl) (by kernel_rfl) (fun _ _ _ h => h) (Yields.yieldsIf (Or.inl ⟨by kernel_rfl, ?_⟩)) hS ?_
  rotate_left
  · first | (intro w; go_simp; done) | (intro w; go_simp; with_reducible rfl)
  refine wpAnyH_take (i := 5) (v := ?_) rfl (by kernel_rfl) (by kernel_rfl) (by kernel_rfl) (fun _ _ _ h => h) (Or.inl ⟨by kernel_rfl, fun W hW => ?_⟩) hS ?_
  rotate_left
  · obtain ⟨⟨c0, c1, c2_⟩, c3, c4, c5, c6, c7⟩ := HC.out W hW; have d3 := HP.out W hW
    first | (go_simp; done) | (go_simp; with_reducible rfl)
  refine wpAnyH_ready (rs := [6]) (by kernel_rfl) (by simp) ?_
  refine AllReadyH.cons rfl (fun K hK => ?_) AllReadyH.nil
  go_simp
  go_wp2_with (go_at_call 87; refine (HCA.out _ HS.out).mono ?_; rintro e wa4 ⟨rfl, hba⟩)
  have H4 := Lib.hid (HS.out.trans (hba.mono HS.out.size))
  clear hba
  have hS3 : Below W1.heap.size W1 wa4 := H4.out
  refine hK.out _ _ hS3 (fun hS => ?_)
  clear hK K hS3
  refine wpAnyH_take (i := 7) (v := ?_) rfl (by kernel_rfl) (by kernel_rfl) (by kernel_rfl) (fun _ _ _ h => h) (Yields.yieldsIf (Or.inl ⟨by kernel_rfl, ?_⟩)) hS ?_
  rotate_left
  · first | (intro w; go_simp; done) | (intro w; go_simp; with_reducible rfl)
  refine wpAnyH_done (by kernel_rfl) ?_ _
  go_wp2
  go_ret
  exact ⟨rfl, HB1.out _ H4.out⟩

end Go.Proofs.Ytdffifkleaekhaa.O
