/-
  The reference's text and Show.
-/
import Derived.Test.YtflghlmikpfnpaaDoorEDigits
import Derived.Test.YtflghlmikpfnpaaDoorERops
import Derived.Test.YtflghlmikpfnpaaDoorEShown
namespace Go.Proofs.YtflghlmikpfnpaaDoor.E
open Go.RowKit

set_option maxRecDepth 100000 in
set_option maxHeartbeats 3200000 in
theorem text_any : ∀ (t : Tr) (m : Int) (v : Value) (w : World), t.okc m = true → m ≤ 4611686018427387904 → 24 * t.nodes ≤ 1000000 → InT w w.heap.size t v → Calls Tryd.prog 49 #[v] w fun e w' => e = .returned (.string (strU (txt t))) ∧ Below w.heap.size w w' := by
  intro t
  induction t with
  | leaf n =>
    rintro m v w hok hm _ ⟨A, c, rfl⟩
    have hn := okc_N _ _ hok
    simp only [Tr.N] at hn
    have hc := digits_any n (w.alloc (.cells #[.int .i64 n, .slice A 0 c] 24)) (by omega) (by omega)
    have HR : Hid (txt (.leaf n) = Lib.itoa n) := rfl
    have HB : Hid (Below w.heap.size w (w.alloc (.cells #[.int .i64 n, .slice A 0 c] 24))) := (Below.refl _ w).alloc (Nat.le_refl _) _
    obtain ⟨T, hT⟩ : ∃ T, strU (Lib.itoa n) = T := ⟨_, rfl⟩
    rw [hT] at hc
    have HT := Lib.hid hT
    unfold tv
    clear hok hT
    go_enter Tryd.func49, Tryd.ntmps49
    go_wp2_with fail
    refine hc.mono ?_
    rintro e w1 ⟨rfl, hb1⟩
    have HB1 : Hid (Below w.heap.size w w1) := HB.out.trans (hb1.mono HB.out.size)
    clear hc hb1
    go_wp2
    go_ret
    exact ⟨by rw [HR.out, HT.out]; rfl, HB1.out⟩
  | node n x y ihx ihy =>
    rintro m v w hok hm hl ⟨b, off, c1, rfl, hb, ⟨o1, A1, n1, d1, e1, e2, e3⟩, ⟨o2, A2, n2, d2, g1, g2, g3⟩⟩
    have hn := okc_N _ _ hok
    simp only [Tr.N] at hn
    simp only [Tr.okc, Bool.and_eq_true_iff] at hok
    simp only [Tr.nodes] at hl
    have hil := itoa_len hn.1 (by omega)
    have hlx := txt_len x _ hok.2.1 (by omega)
    have hly := txt_len y _ hok.2.2 (by omega)
    unfold tv
    have hb' : b < w.heap.size := hb
    obtain ⟨W0, hW0⟩ : ∃ W0, w.alloc (.cells #[.int .i64 n, .slice (some ⟨b, off, none⟩) 2 c1] 24) = W0 := ⟨_, rfl⟩
    have hB0 : Below w.heap.size w W0 := by rw [← hW0]; exact (Below.refl _ w).alloc (Nat.le_refl _) _
    have hs0 : W0.heap.size = w.heap.size + 1 := by rw [← hW0]; simp
    have k0 : W0.cell? ⟨w.heap.size, 0, none⟩ = some (.int .i64 n) := by rw [← hW0]; simp [go_sem]
    have k1 : W0.cell? ⟨w.heap.size, 1, none⟩ = some (.slice (some ⟨b, off, none⟩) 2 c1) := by rw [← hW0]; simp [go_sem]
    have HF : Hid (∀ W, Below (w.heap.size + 1) W0 W → W.cell? ⟨w.heap.size, 0, none⟩ = some (.int .i64 n) ∧ W.cell? ⟨w.heap.size, 1, none⟩ = some (.slice (some ⟨b, off, none⟩) 2 c1) ∧ W.cell? ⟨b, off, none⟩ = some (.int .i64 o1) ∧ W.cell? ⟨b, off + 1, none⟩ = some (.slice A1 n1 d1) ∧ W.cell? ⟨b, off + 2, none⟩ = some (.int .i64 o2) ∧ W.cell? ⟨b, off + 2 + 1, none⟩ = some (.slice A2 n2 d2)) := fun W hW => by
      have low : ∀ i, W.cell? ⟨b, i, none⟩ = w.cell? ⟨b, i, none⟩ := fun i => (hW.cell (by show b < _; omega)).trans (hB0.cell hb)
      exact ⟨(hW.cell (by show w.heap.size < _; omega)).trans k0, (hW.cell (by show w.heap.size < _; omega)).trans k1, (low _).trans e1, (low _).trans e2, (low _).trans g1, (low _).trans g2⟩
    have hcn : ∀ W, Calls Tryd.prog 76 #[.int .i64 n] W fun e w' => e = .returned (.string (strU (Lib.itoa n))) ∧ Below W.heap.size W w' := fun W => digits_any n W (by omega) (by omega)
    have hcx : ∀ W, Below (w.heap.size + 1) W0 W → Calls Tryd.prog 49 #[.agg #[.int .i64 o1, .slice A1 n1 d1]] W fun e w' => e = .returned (.string (strU (txt x))) ∧ Below W.heap.size W w' := fun W hW => ihx (m - n) _ W hok.2.1 (by omega) (by omega) (e3.up (hB0.trans (hW.mono (by omega))))
    have hcy : ∀ W, Below (w.heap.size + 1) W0 W → Calls Tryd.prog 49 #[.agg #[.int .i64 o2, .slice A2 n2 d2]] W fun e w' => e = .returned (.string (strU (txt y))) ∧ Below W.heap.size W w' := fun W hW => ihy (m - n) _ W hok.2.2 (by omega) (by omega) (g3.up (hB0.trans (hW.mono (by omega))))
    have HE : Hid (strU (txt (.node n x y)) = (((((strU [40] ++ strU (Lib.itoa n)) ++ strU [44]) ++ strU (txt x)) ++ strU [44]) ++ strU (txt y)) ++ strU [41]) := by
      show _ = _
      simp only [strU_append]
      simp [txt]
    have z0 := strU_size (Lib.itoa n)
    have z1 := strU_size (txt x)
    have z2 := strU_size (txt y)
    obtain ⟨S0, hS0⟩ : ∃ S, strU (Lib.itoa n) = S := ⟨_, rfl⟩
    obtain ⟨S1, hS1⟩ : ∃ S, strU (txt x) = S := ⟨_, rfl⟩
    obtain ⟨S2, hS2⟩ : ∃ S, strU (txt y) = S := ⟨_, rfl⟩
    simp only [hS0] at hcn HE z0
    simp only [hS1] at hcx HE z1
    simp only [hS2] at hcy HE z2
    obtain ⟨q0, hq0⟩ : ∃ q, S0.size = q := ⟨_, rfl⟩
    obtain ⟨q1, hq1⟩ : ∃ q, S1.size = q := ⟨_, rfl⟩
    obtain ⟨q2, hq2⟩ : ∃ q, S2.size = q := ⟨_, rfl⟩
    obtain ⟨X1, hX1⟩ : ∃ X, strU [40] ++ S0 = X := ⟨_, rfl⟩
    have y1 : X1.size = 1 + q0 := by rw [← hX1, ByteArray.size_append, strU_size, hq0]; rfl
    rw [hX1] at HE
    obtain ⟨X2, hX2⟩ : ∃ X, X1 ++ strU [44] = X := ⟨_, rfl⟩
    have y2 : X2.size = 1 + q0 + 1 := by rw [← hX2, ByteArray.size_append, strU_size, y1]; rfl
    rw [hX2] at HE
    obtain ⟨X3, hX3⟩ : ∃ X, X2 ++ S1 = X := ⟨_, rfl⟩
    have y3 : X3.size = 1 + q0 + 1 + q1 := by rw [← hX3, ByteArray.size_append, y2, hq1]
    rw [hX3] at HE
    obtain ⟨X4, hX4⟩ : ∃ X, X3 ++ strU [44] = X := ⟨_, rfl⟩
    have y4 : X4.size = 1 + q0 + 1 + q1 + 1 := by rw [← hX4, ByteArray.size_append, strU_size, y3]; rfl
    rw [hX4] at HE
    obtain ⟨X5, hX5⟩ : ∃ X, X4 ++ S2 = X := ⟨_, rfl⟩
    have y5 : X5.size = 1 + q0 + 1 + q1 + 1 + q2 := by rw [← hX5, ByteArray.size_append, y4, hq2]
    rw [hX5] at HE
    obtain ⟨X6, hX6⟩ : ∃ X, X5 ++ strU [41] = X := ⟨_, rfl⟩
    have y6 : X6.size = 1 + q0 + 1 + q1 + 1 + q2 + 1 := by rw [← hX6, ByteArray.size_append, strU_size, y5]; rfl
    rw [hX6] at HE
    have b1 : ¬ 9223372036854775807 < 1 + q0 := by omega
    have b2 : ¬ 9223372036854775807 < 1 + q0 + 1 := by omega
    have b3 : ¬ 9223372036854775807 < 1 + q0 + 1 + q1 := by omega
    have b4 : ¬ 9223372036854775807 < 1 + q0 + 1 + q1 + 1 := by omega
    have b5 : ¬ 9223372036854775807 < 1 + q0 + 1 + q1 + 1 + q2 := by omega
    have b6 : ¬ 9223372036854775807 < 1 + q0 + 1 + q1 + 1 + q2 + 1 := by omega
    have hX1' : ({ data := #[40] } : ByteArray) ++ S0 = X1 := hX1
    have hX2' : X1 ++ ({ data := #[44] } : ByteArray) = X2 := hX2
    have hX4' : X3 ++ ({ data := #[44] } : ByteArray) = X4 := hX4
    have hX6' : X5 ++ ({ data := #[41] } : ByteArray) = X6 := hX6
    have HW0 := Lib.hid hW0
    have HS0 := Lib.hid hs0
    have HB0 := Lib.hid hB0
    clear hW0 hs0 hB0 k0 k1 e1 e2 e3 g1 g2 g3 hX1 hX2 hX4 hX6 hS0 hS1 hS2 ihx ihy hlx hly hil z0 z1 z2 hok
    go_enter Tryd.func49, Tryd.ntmps49
    go_wp2
    rw [HW0.out]
    refine wp_region_held_drew (S := fun W => Below (w.heap.size + 1) W0 W) (by kernel_rfl) ((Below.refl _ _).drew) (fun hS => ?_)
    refine wpAnyH_take (i := 0) (v := ?_) rfl (by kernel_rfl) (by kernel_rfl) (by kernel_rfl) (fun _ _ _ h => h) (Yields.yieldsIf (Or.inl ⟨by kernel_rfl, ?_⟩)) hS ?_
    rotate_left
    · first | (intro w; go_simp; done) | (intro w; go_simp; with_reducible rfl)
    refine wpAnyH_take (i := 1) (v := ?_) rfl (by kernel_rfl) (by kernel_rfl) (by kernel_rfl) (fun _ _ _ h => h) (Or.inl ⟨by kernel_rfl, fun W hW => ?_⟩) hS ?_
    rotate_left
    · obtain ⟨f0, f1, f2, f3, f4, f5⟩ := HF.out W hW
      first | (go_simp; done) | (go_simp; with_reducible rfl)
    refine wpAnyH_take (i := 5) (v := ?_) rfl (by kernel_rfl) (by kernel_rfl) (by kernel_rfl) (fun _ _ _ h => h) (Yields.yieldsIf (Or.inl ⟨by kernel_rfl, ?_⟩)) hS ?_
    rotate_left
    · first | (intro w; go_simp; done) | (intro w; go_simp; with_reducible rfl)
    refine wpAnyH_take (i := 6) (v := ?_) rfl (by kernel_rfl) (by kernel_rfl) (by kernel_rfl) (fun _ _ _ h => h) (Or.inl ⟨by kernel_rfl, fun W hW => ?_⟩) hS ?_
    rotate_left
    · obtain ⟨f0, f1, f2, f3, f4, f5⟩ := HF.out W hW
      first | (go_simp; done) | (go_simp; with_reducible rfl)
    refine wpAnyH_take (i := 7) (v := ?_) rfl (by kernel_rfl) (by kernel_rfl) (by kernel_rfl) (fun _ _ _ h => h) (Yields.yieldsIf (Or.inl ⟨by kernel_rfl, ?_⟩)) hS ?_
    rotate_left
    · first | (intro w; go_simp; done) | (intro w; go_simp; with_reducible rfl)
    refine wpAnyH_take (i := 8) (v := ?_) rfl (by kernel_rfl) (by kernel_rfl) (by kernel_rfl) (fun _ _ _ h => h) (Or.inl ⟨by kernel_rfl, fun W hW => ?_⟩) hS ?_
    rotate_left
    · obtain ⟨f0, f1, f2, f3, f4, f5⟩ := HF.out W hW
      first | (go_simp; done) | (go_simp; with_reducible rfl)
    refine wpAnyH_take (i := 12) (v := ?_) rfl (by kernel_rfl) (by kernel_rfl) (by kernel_rfl) (fun _ _ _ h => h) (Yields.yieldsIf (Or.inl ⟨by kernel_rfl, ?_⟩)) hS ?_
    rotate_left
    · first | (intro w; go_simp; done) | (intro w; go_simp; with_reducible rfl)
    refine wpAnyH_take (i := 13) (v := ?_) rfl (by kernel_rfl) (by kernel_rfl) (by kernel_rfl) (fun _ _ _ h => h) (Or.inl ⟨by kernel_rfl, fun W hW => ?_⟩) hS ?_
    rotate_left
    · obtain ⟨f0, f1, f2, f3, f4, f5⟩ := HF.out W hW
      first | (go_simp; done) | (go_simp; with_reducible rfl)
    refine wpAnyH_take (i := 14) (v := ?_) rfl (by kernel_rfl) (by kernel_rfl) (by kernel_rfl) (fun _ _ _ h => h) (Yields.yieldsIf (Or.inl ⟨by kernel_rfl, ?_⟩)) hS ?_
    rotate_left
    · first | (intro w; go_simp; done) | (intro w; go_simp; with_reducible rfl)
    refine wpAnyH_take (i := 15) (v := ?_) rfl (by kernel_rfl) (by kernel_rfl) (by kernel_rfl) (fun _ _ _ h => h) (Or.inl ⟨by kernel_rfl, fun W hW => ?_⟩) hS ?_
    rotate_left
    · obtain ⟨f0, f1, f2, f3, f4, f5⟩ := HF.out W hW
      first | (go_simp; done) | (go_simp; with_reducible rfl)
    refine wpAnyH_ready (rs := [2]) (by kernel_rfl) (by simp) ?_
    refine AllReadyH.cons rfl (fun K hK => ?_) AllReadyH.nil
    go_simp
    go_wp2_with (go_at_call 76; refine (hcn _).mono ?_; rintro e w3 ⟨rfl, hb3⟩)
    have hS3 : Below (w.heap.size + 1) W0 w3 := hS.trans (hb3.mono (by have := hS.size; have := HS0.out; omega))
    clear hb3
    refine hK.out _ _ hS3 (fun hS => ?_)
    clear hK K hS3
    refine wpAnyH_take (i := 3) (v := ?_) rfl (by kernel_rfl) (by kernel_rfl) (by kernel_rfl) (fun _ _ _ h => h) (Yields.yieldsIf (Or.inl ⟨by kernel_rfl, ?_⟩)) hS ?_
    rotate_left
    · first | (intro w; go_simp; done) | (intro w; go_simp; with_reducible rfl)
    refine wpAnyH_take (i := 4) (v := ?_) rfl (by kernel_rfl) (by kernel_rfl) (by kernel_rfl) (fun _ _ _ h => h) (Yields.yieldsIf (Or.inl ⟨by kernel_rfl, ?_⟩)) hS ?_
    rotate_left
    · first | (intro w; go_simp; done) | (intro w; go_simp; with_reducible rfl)
    refine wpAnyH_ready (rs := [9]) (by kernel_rfl) (by simp) ?_
    refine AllReadyH.cons rfl (fun K hK => ?_) AllReadyH.nil
    go_simp
    go_wp2_with (go_at_call 49; refine (hcx _ hS).mono ?_; rintro e w4 ⟨rfl, hb3⟩)
    have hS3 : Below (w.heap.size + 1) W0 w4 := hS.trans (hb3.mono (by have := hS.size; have := HS0.out; omega))
    clear hb3
    refine hK.out _ _ hS3 (fun hS => ?_)
    clear hK K hS3
    refine wpAnyH_take (i := 10) (v := ?_) rfl (by kernel_rfl) (by kernel_rfl) (by kernel_rfl) (fun _ _ _ h => h) (Yields.yieldsIf (Or.inl ⟨by kernel_rfl, ?_⟩)) hS ?_
    rotate_left
    · first | (intro w; go_simp; done) | (intro w; go_simp; with_reducible rfl)
    refine wpAnyH_take (i := 11) (v := ?_) rfl (by kernel_rfl) (by kernel_rfl) (by kernel_rfl) (fun _ _ _ h => h) (Yields.yieldsIf (Or.inl ⟨by kernel_rfl, ?_⟩)) hS ?_
    rotate_left
    · first | (intro w; go_simp; done) | (intro w; go_simp; with_reducible rfl)
    refine wpAnyH_ready (rs := [16]) (by kernel_rfl) (by simp) ?_
    refine AllReadyH.cons rfl (fun K hK => ?_) AllReadyH.nil
    go_simp
    go_wp2_with (go_at_call 49; refine (hcy _ hS).mono ?_; rintro e w5 ⟨rfl, hb3⟩)
    have hS3 : Below (w.heap.size + 1) W0 w5 := hS.trans (hb3.mono (by have := hS.size; have := HS0.out; omega))
    clear hb3
    refine hK.out _ _ hS3 (fun hS => ?_)
    clear hK K hS3
    refine wpAnyH_take (i := 17) (v := ?_) rfl (by kernel_rfl) (by kernel_rfl) (by kernel_rfl) (fun _ _ _ h => h) (Yields.yieldsIf (Or.inl ⟨by kernel_rfl, ?_⟩)) hS ?_
    rotate_left
    · first | (intro w; go_simp; done) | (intro w; go_simp; with_reducible rfl)
    refine wpAnyH_take (i := 18) (v := ?_) rfl (by kernel_rfl) (by kernel_rfl) (by kernel_rfl) (fun _ _ _ h => h) (Yields.yieldsIf (Or.inl ⟨by kernel_rfl, ?_⟩)) hS ?_
    rotate_left
    · first | (intro w; go_simp; done) | (intro w; go_simp; with_reducible rfl)
    refine wpAnyH_take (i := 19) (v := ?_) rfl (by kernel_rfl) (by kernel_rfl) (by kernel_rfl) (fun _ _ _ h => h) (Yields.yieldsIf (Or.inl ⟨by kernel_rfl, ?_⟩)) hS ?_
    rotate_left
    · first | (intro w; go_simp; done) | (intro w; go_simp; with_reducible rfl)
    refine wpAnyH_done (by kernel_rfl) ?_ _
    have HB5 : Hid (Below w.heap.size w w5) := HB0.out.trans (hS.mono (by omega))
    clear hS
    go_wp2
    go_ret
    exact ⟨by rw [HE.out]; rfl, HB5.out⟩
end Go.Proofs.YtflghlmikpfnpaaDoor.E
