/-
  The reference's Equal.
-/
import Derived.Test.YtkpefelakhbkhaaIEqual
namespace Go.Proofs.Ytkpefelakhbkhaa.I
open Go.RowKit

def eqT : Tr → Tr → Bool
  | .leaf o, .leaf p => o == p
  | .node a b, .node c d => eqT a c && eqT b d
  | _, _ => false
theorem eqT_iff : ∀ (x y : Tr), eqT x y = true ↔ x = y
  | .leaf o, .leaf p => by simp [eqT]
  | .node a b, .node c d => by simp [eqT, eqT_iff a c, eqT_iff b d]
  | .leaf _, .node _ _ => by simp [eqT]
  | .node _ _, .leaf _ => by simp [eqT]
theorem eqT_refl (x : Tr) : eqT x x = true := (eqT_iff x x).2 rfl

set_option maxRecDepth 100000 in
set_option maxHeartbeats 1600000 in
/-- Trees whose first look tells them apart, or leaves. -/
theorem equal_no (o1 o2 : Bool) (A1 A2 : Option Addr) (n1 n2 c1 c2 : Nat) (w : World) (h : o1 ≠ o2 ∨ n1 ≠ n2) : Calls Try.prog 19 #[tv o1 A1 n1 c1, tv o2 A2 n2 c2] w fun e w' => e = .returned (.bool false) ∧ Below w.heap.size w w' := by
  have HB : Hid (Below w.heap.size w ((w.alloc (.cells #[.bool o1, .slice A1 n1 c1] 24)).alloc (.cells #[.bool o2, .slice A2 n2 c2] 24))) := ((Below.refl _ w).alloc (Nat.le_refl _) _).alloc (by simp) _
  unfold tv
  by_cases ho : o1 = o2
  · have hn : ¬ n1 = n2 := by
      rcases h with h | h
      · exact absurd ho h
      · exact h
    subst ho
    clear h
    go_enter Try.func19, Try.ntmps19
    go_wp2
    go_ret
    exact ⟨rfl, HB.out⟩
  · have hob : (o1 == o2) = false := beq_eq_false_iff_ne.2 ho
    clear h
    go_enter Try.func19, Try.ntmps19
    go_wp2
    go_ret
    exact ⟨rfl, HB.out⟩
set_option maxRecDepth 100000 in
set_option maxHeartbeats 1600000 in
theorem equal_leaf (o : Bool) (A1 A2 : Option Addr) (c1 c2 : Nat) (w : World) : Calls Try.prog 19 #[tv o A1 0 c1, tv o A2 0 c2] w fun e w' => e = .returned (.bool true) ∧ Below w.heap.size w w' := by
  have HB : Hid (Below w.heap.size w ((w.alloc (.cells #[.bool o, .slice A1 0 c1] 24)).alloc (.cells #[.bool o, .slice A2 0 c2] 24))) := ((Below.refl _ w).alloc (Nat.le_refl _) _).alloc (by simp) _
  unfold tv
  go_enter Try.func19, Try.ntmps19
  go_wp2
  go_loopg [5] 0 (fun k i wr => k = 0 ∧ i = .int .i64 0 ∧ wr = (w.alloc (.cells #[.bool o, .slice A1 0 c1] 24)).alloc (.cells #[.bool o, .slice A2 0 c2] 24))
  case atStart => exact ⟨rfl, rfl, rfl⟩
  case round =>
    obtain ⟨_, rfl, rfl⟩ := hrel
    go_wp2
    go_ret
    exact ⟨rfl, HB.out⟩

set_option maxRecDepth 100000 in
set_option maxHeartbeats 3200000 in
theorem equal_any : ∀ (x y : Tr) (u v : Value) (w : World), InT w w.heap.size x u → InT w w.heap.size y v → Calls Try.prog 19 #[u, v] w fun e w' => e = .returned (.bool (eqT x y)) ∧ Below w.heap.size w w' := by
  intro x
  induction x with
  | leaf o =>
    rintro y u v w ⟨A1, c1, rfl⟩ hy
    cases y with
    | leaf p =>
      obtain ⟨A2, c2, rfl⟩ := hy
      by_cases h : o = p
      · subst h; rw [eqT_refl]; exact equal_leaf o A1 A2 c1 c2 w
      · rw [show eqT (.leaf o) (.leaf p) = false by simp [eqT, h]]; exact equal_no _ _ _ _ _ _ _ _ w (.inl h)
    | node a b =>
      obtain ⟨b', off, c, rfl, _⟩ := hy
      exact equal_no _ _ _ _ _ _ _ _ w (.inr (by decide))
  | node x1 x2 ih1 ih2 =>
    rintro y u v w hx hy
    cases y with
    | leaf p =>
      obtain ⟨b', off, c, rfl, _⟩ := hx
      obtain ⟨A2, c2, rfl⟩ := hy
      exact equal_no _ _ _ _ _ _ _ _ w (.inr (by decide))
    | node y1 y2 =>
      obtain ⟨b, off, c, rfl, hb, ⟨p1, A1, n1, c1, e1, e2, e3⟩, ⟨p2, A2, n2, c2, e4, e5, e6⟩⟩ := hx
      obtain ⟨b', off', c', rfl, hb', ⟨q1, B1, m1, d1, g1, g2, g3⟩, ⟨q2, B2, m2, d2, g4, g5, g6⟩⟩ := hy
      unfold tv
      obtain ⟨W0, hW0⟩ : ∃ W0, (w.alloc (.cells #[.bool false, .slice (some ⟨b, off, none⟩) 2 c] 24)).alloc (.cells #[.bool false, .slice (some ⟨b', off', none⟩) 2 c'] 24) = W0 := ⟨_, rfl⟩
      have hB0 : Below w.heap.size w W0 := by rw [← hW0]; exact ((Below.refl _ w).alloc (Nat.le_refl _) _).alloc (by simp) _
      have hs0 : W0.heap.size = w.heap.size + 2 := by rw [← hW0]; simp
      have k1 : W0.cell? ⟨w.heap.size, 1, none⟩ = some (.slice (some ⟨b, off, none⟩) 2 c) := by rw [← hW0]; simp [go_sem]
      have k2 : W0.cell? ⟨w.heap.size + 1, 1, none⟩ = some (.slice (some ⟨b', off', none⟩) 2 c') := by rw [← hW0]; simp [go_sem]
      have FX : ∀ j, j < 2 → ∃ p A n d z q B m d' z', ((j = 0 ∧ z = x1 ∧ z' = y1) ∨ (j = 1 ∧ z = x2 ∧ z' = y2)) ∧ InT w w.heap.size z (tv p A n d) ∧ InT w w.heap.size z' (tv q B m d') ∧
          Hid (∀ W, Below (w.heap.size + 2) W0 W → W.cell? ⟨w.heap.size, 1, none⟩ = some (.slice (some ⟨b, off, none⟩) 2 c) ∧ W.cell? ⟨b, off + j * 2, none⟩ = some (.bool p) ∧ W.cell? ⟨b, off + j * 2 + 1, none⟩ = some (.slice A n d)) ∧
          Hid (∀ W, Below (w.heap.size + 2) W0 W → W.cell? ⟨w.heap.size + 1, 1, none⟩ = some (.slice (some ⟨b', off', none⟩) 2 c') ∧ W.cell? ⟨b', off' + j * 2, none⟩ = some (.bool q) ∧ W.cell? ⟨b', off' + j * 2 + 1, none⟩ = some (.slice B m d')) := by
        intro j hj
        have low : ∀ W, Below (w.heap.size + 2) W0 W → ∀ p : Addr, p.block < w.heap.size → W.cell? p = w.cell? p := fun W hW p hp => (hW.cell (by omega)).trans (hB0.cell hp)
        match j, hj with
        | 0, _ => exact ⟨p1, A1, n1, c1, x1, q1, B1, m1, d1, y1, .inl ⟨rfl, rfl, rfl⟩, e3, g3, fun W hW => ⟨(hW.cell (by show w.heap.size < _; omega)).trans k1, (low W hW _ hb).trans (by simpa using e1), (low W hW _ hb).trans (by simpa using e2)⟩, fun W hW => ⟨(hW.cell (by show w.heap.size + 1 < _; omega)).trans k2, (low W hW _ hb').trans (by simpa using g1), (low W hW _ hb').trans (by simpa using g2)⟩⟩
        | 1, _ => exact ⟨p2, A2, n2, c2, x2, q2, B2, m2, d2, y2, .inr ⟨rfl, rfl, rfl⟩, e6, g6, fun W hW => ⟨(hW.cell (by show w.heap.size < _; omega)).trans k1, (low W hW _ hb).trans (by simpa using e4), (low W hW _ hb).trans (by simpa using e5)⟩, fun W hW => ⟨(hW.cell (by show w.heap.size + 1 < _; omega)).trans k2, (low W hW _ hb').trans (by simpa using g4), (low W hW _ hb').trans (by simpa using g5)⟩⟩
      have HFX := Lib.hid FX
      have HB0 := Lib.hid hB0
      have HS0 := Lib.hid hs0
      have HW0 := Lib.hid hW0
      clear FX hB0 hs0 e1 e2 e3 e4 e5 e6 g1 g2 g3 g4 g5 g6 hW0 k1 k2
      go_enter Try.func19, Try.ntmps19
      go_wp2
      rw [HW0.out]
      go_loopg [5] 2 (fun k i wr => ∃ (j : Nat), j ≤ 2 ∧ k = 2 - j ∧ i = .int .i64 j ∧ Hid ((0 < j → eqT x1 y1 = true) ∧ (1 < j → eqT x2 y2 = true)) ∧ Hid (Below (w.heap.size + 2) W0 wr))
      case atStart => exact ⟨0, by omega, rfl, rfl, ⟨by omega, by omega⟩, Below.refl _ _⟩
      case round =>
        obtain ⟨j, hj, hgk, rfl, hinv, hB⟩ := hrel
        have HGK := Lib.hid hgk; clear hgk
        by_cases hlt : j < 2
        · obtain ⟨p, A, n, d, z, q, B, m, d', z', hz, hi1, hi2, F1, F2⟩ := HFX.out j hlt
          have hcall : ∀ W, Below (w.heap.size + 2) W0 W → Calls Try.prog 19 #[.agg #[.bool p, .slice A n d], .agg #[.bool q, .slice B m d']] W fun e w' => e = .returned (.bool (eqT z z')) ∧ Below W.heap.size W w' := by
            intro W hW
            have hBW : Below w.heap.size w W := HB0.out.trans (hW.mono (by omega))
            rcases hz with ⟨_, hz1, hz2⟩ | ⟨_, hz1, hz2⟩
            · rw [hz1] at hi1
              rw [hz2] at hi2
              rw [hz1, hz2]
              exact ih1 _ _ _ W (hi1.up hBW) (hi2.up hBW)
            · rw [hz1] at hi1
              rw [hz2] at hi2
              rw [hz1, hz2]
              exact ih2 _ _ _ W (hi1.up hBW) (hi2.up hBW)
          obtain ⟨f0', f1', f2'⟩ := F1.out wr hB.out
          have HE : ∀ r, eqT z z' = r → Hid ((r = true → (0 < j + 1 → eqT x1 y1 = true) ∧ (1 < j + 1 → eqT x2 y2 = true)) ∧ (r = false → eqT (.node x1 x2) (.node y1 y2) = false)) := by
            intro r hr
            rcases hz with ⟨h0, hz1, hz2⟩ | ⟨h0, hz1, hz2⟩
            · rw [hz1, hz2] at hr
              exact ⟨fun h => ⟨fun _ => hr.trans h, by omega⟩, fun h => by simp only [eqT]; rw [hr.trans h]; rfl⟩
            · rw [hz1, hz2] at hr
              exact ⟨fun h => ⟨fun _ => hinv.out.1 (by omega), fun _ => hr.trans h⟩, fun h => by simp only [eqT]; rw [hr.trans h, Bool.and_false]⟩
          obtain ⟨r, hre⟩ : ∃ r, eqT z z' = r := ⟨_, rfl⟩
          simp only [hre] at hcall
          have HE2 := HE r hre
          clear hz hi1 hi2 hre HE
          go_wp2
          refine wp_region_held_drew (S := fun W => Below (w.heap.size + 2) W0 W) (by kernel_rfl) (hB.out.drew) (fun hS => ?_)
          refine wpAnyH_take (i := 0) (v := ?_) rfl (by kernel_rfl) (by kernel_rfl) (by kernel_rfl) (fun _ _ _ h => h) (Yields.yieldsIf (Or.inl ⟨by kernel_rfl, ?_⟩)) hS ?_
          rotate_left
          · first | (intro w; go_simp; done) | (intro w; go_simp; with_reducible rfl)
          refine wpAnyH_take (i := 1) (v := ?_) rfl (by kernel_rfl) (by kernel_rfl) (by kernel_rfl) (fun _ _ _ h => h) (Or.inl ⟨by kernel_rfl, fun W hW => ?_⟩) hS ?_
          rotate_left
          · obtain ⟨f0, f1, f2⟩ := F1.out W hW
            first | (go_simp; done) | (go_simp; with_reducible rfl)
          refine wpAnyH_take (i := 2) (v := ?_) rfl (by kernel_rfl) (by kernel_rfl) (by kernel_rfl) (fun _ _ _ h => h) (Yields.yieldsIf (Or.inl ⟨by kernel_rfl, ?_⟩)) hS ?_
          rotate_left
          · first | (intro w; go_simp; done) | (intro w; go_simp; with_reducible rfl)
          refine wpAnyH_take (i := 3) (v := ?_) rfl (by kernel_rfl) (by kernel_rfl) (by kernel_rfl) (fun _ _ _ h => h) (Yields.yieldsIf (Or.inl ⟨by kernel_rfl, ?_⟩)) hS ?_
          rotate_left
          · first | (intro w; go_simp; done) | (intro w; go_simp; with_reducible rfl)
          refine wpAnyH_take (i := 4) (v := ?_) rfl (by kernel_rfl) (by kernel_rfl) (by kernel_rfl) (fun _ _ _ h => h) (Or.inl ⟨by kernel_rfl, fun W hW => ?_⟩) hS ?_
          rotate_left
          · obtain ⟨f0, f1, f2⟩ := F1.out W hW
            first | (go_simp; done) | (go_simp; with_reducible rfl)
          refine wpAnyH_take (i := 5) (v := ?_) rfl (by kernel_rfl) (by kernel_rfl) (by kernel_rfl) (fun _ _ _ h => h) (Yields.yieldsIf (Or.inl ⟨by kernel_rfl, ?_⟩)) hS ?_
          rotate_left
          · first | (intro w; go_simp; done) | (intro w; go_simp; with_reducible rfl)
          refine wpAnyH_take (i := 6) (v := ?_) rfl (by kernel_rfl) (by kernel_rfl) (by kernel_rfl) (fun _ _ _ h => h) (Or.inl ⟨by kernel_rfl, fun W hW => ?_⟩) hS ?_
          rotate_left
          · obtain ⟨f0, f1, f2⟩ := F2.out W hW
            first | (go_simp; done) | (go_simp; with_reducible rfl)
          refine wpAnyH_take (i := 7) (v := ?_) rfl (by kernel_rfl) (by kernel_rfl) (by kernel_rfl) (fun _ _ _ h => h) (Yields.yieldsIf (Or.inl ⟨by kernel_rfl, ?_⟩)) hS ?_
          rotate_left
          · first | (intro w; go_simp; done) | (intro w; go_simp; with_reducible rfl)
          refine wpAnyH_take (i := 8) (v := ?_) rfl (by kernel_rfl) (by kernel_rfl) (by kernel_rfl) (fun _ _ _ h => h) (Yields.yieldsIf (Or.inl ⟨by kernel_rfl, ?_⟩)) hS ?_
          rotate_left
          · first | (intro w; go_simp; done) | (intro w; go_simp; with_reducible rfl)
          refine wpAnyH_take (i := 9) (v := ?_) rfl (by kernel_rfl) (by kernel_rfl) (by kernel_rfl) (fun _ _ _ h => h) (Or.inl ⟨by kernel_rfl, fun W hW => ?_⟩) hS ?_
          rotate_left
          · obtain ⟨f0, f1, f2⟩ := F2.out W hW
            first | (go_simp; done) | (go_simp; with_reducible rfl)
          refine wpAnyH_ready (rs := [10]) (by kernel_rfl) (by simp) ?_
          refine AllReadyH.cons rfl (fun K hK => ?_) AllReadyH.nil
          go_simp
          go_wp2_with (go_at_call 19; refine (hcall _ hS).mono ?_; rintro e w2 ⟨rfl, hbb⟩)
          have hS3 : Below (w.heap.size + 2) W0 w2 := hS.trans (hbb.mono (by have := hS.size; have := HS0.out; omega))
          clear hbb
          refine hK.out _ _ hS3 (fun hS => ?_)
          clear hK K hS3
          refine wpAnyH_take (i := 11) (v := ?_) rfl (by kernel_rfl) (by kernel_rfl) (by kernel_rfl) (fun _ _ _ h => h) (Yields.yieldsIf (Or.inl ⟨by kernel_rfl, ?_⟩)) hS ?_
          rotate_left
          · first | (intro w; go_simp; done) | (intro w; go_simp; with_reducible rfl)
          refine wpAnyH_done (by kernel_rfl) ?_ _
          have HB2 : Hid (Below (w.heap.size + 2) W0 w2) := hS
          clear hS hcall f0' f1' f2'
          cases r with
          | true =>
            go_wp2
            go_roundg (2 - (j + 1))
            case measure => have := HGK.out; omega
            case rel => exact ⟨j + 1, by omega, rfl, by go_num, HE2.out.1 (by first | rfl | trivial), HB2⟩
          | false =>
            go_wp2
            go_ret
            exact ⟨ret_bool (HE2.out.2 (by first | rfl | trivial)).symm, HB0.out.trans (HB2.out.mono (by omega))⟩
        · obtain rfl : j = 2 := by omega
          obtain ⟨f0', _, _⟩ := (HFX.out 0 (by omega)).choose_spec.choose_spec.choose_spec.choose_spec.choose_spec.choose_spec.choose_spec.choose_spec.choose_spec.choose_spec.2.2.2.1.out wr hB.out
          go_wp2
          go_ret
          refine ⟨ret_bool ?_, HB0.out.trans (hB.out.mono (by omega))⟩
          simp only [eqT]
          rw [hinv.out.1 (by omega), hinv.out.2 (by omega)]; rfl
end Go.Proofs.Ytkpefelakhbkhaa.I
