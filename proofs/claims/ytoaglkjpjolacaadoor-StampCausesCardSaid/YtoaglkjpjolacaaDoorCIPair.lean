/-
  The program's meet and same: two trees, node by node.
-/
import Derived.Test.YtoaglkjpjolacaaDoorCI2
namespace Go.Proofs.YtoaglkjpjolacaaDoor.I
open Go.RowKit
/-- Two boxed trees. -/
structure MB (w : World) (o1 : Bool) (A1 : Option Addr) (n1 c1 : Nat) (o2 : Bool) (A2 : Option Addr) (n2 c2 : Nat) (W : World) : Prop where
  a0 : W.cell? ⟨w.heap.size, 0, none⟩ = some (.bool o1)
  a1 : W.cell? ⟨w.heap.size, 1, none⟩ = some (.slice A1 n1 c1)
  b0 : W.cell? ⟨w.heap.size + 1, 0, none⟩ = some (.bool o2)
  b1 : W.cell? ⟨w.heap.size + 1, 1, none⟩ = some (.slice A2 n2 c2)
  bel : Below w.heap.size w W
  big : w.heap.size + 2 ≤ W.heap.size
theorem MB.start (w : World) (o1 : Bool) (A1 : Option Addr) (n1 c1 : Nat) (o2 : Bool) (A2 : Option Addr) (n2 c2 : Nat) : MB w o1 A1 n1 c1 o2 A2 n2 c2 ((w.alloc (.cells #[.bool o1, .slice A1 n1 c1] 24)).alloc (.cells #[.bool o2, .slice A2 n2 c2] 24)) :=
  ⟨by simp [go_sem], by simp [go_sem], by simp [go_sem], by simp [go_sem], ((Below.refl _ w).alloc (Nat.le_refl _) _).alloc (by simp) _, by simp⟩
theorem MB.next {w : World} {o1 o2 : Bool} {A1 A2 : Option Addr} {n1 n2 c1 c2 : Nat} {W W' : World} (h : MB w o1 A1 n1 c1 o2 A2 n2 c2 W) {B : Nat} (hb : Below B W W') (hB : w.heap.size + 2 ≤ B) : MB w o1 A1 n1 c1 o2 A2 n2 c2 W' :=
  ⟨(hb.cell (by show w.heap.size < _; omega)).trans h.a0, (hb.cell (by show w.heap.size < _; omega)).trans h.a1, (hb.cell (by show w.heap.size + 1 < _; omega)).trans h.b0, (hb.cell (by show w.heap.size + 1 < _; omega)).trans h.b1, h.bel.trans (hb.mono (by omega)), Nat.le_trans h.big hb.size⟩
theorem MB.drew {w : World} {o1 o2 : Bool} {A1 A2 : Option Addr} {n1 n2 c1 c2 : Nat} {W : World} (h : MB w o1 A1 n1 c1 o2 A2 n2 c2 W) : MB w o1 A1 n1 c1 o2 A2 n2 c2 W.drew := h.next ((Below.refl W.heap.size W).drew) h.big

theorem bothT_leaf (y : Tr) : bothT (.leaf true) y = !(onlyT false y) := by rw [bothT, onlyT_norm]
theorem bothT_node (a b : Tr) (o : Bool) : bothT (.node a b) (.leaf o) = (o && !(onlyT false (.node a b))) := by rw [bothT, onlyT_norm]

set_option maxRecDepth 100000 in
set_option maxHeartbeats 6400000 in
theorem meet_tr : ∀ (x y : Tr) (u v : Value) (w : World), InT w w.heap.size x u → InT w w.heap.size y v → Calls Tryd.prog 73 #[u, v] w fun e w' => e = .returned (.bool (bothT x y)) ∧ Below w.heap.size w w' := by
  intro x
  induction x with
  | leaf b =>
    rintro y u v w ⟨A1, c1, rfl⟩ hy
    obtain ⟨o2, A2, n2, c2, rfl⟩ := hy.form
    have HS0 := Lib.hid (MB.start w b A1 0 c1 o2 A2 n2 c2)
    have hc1 := pleaf_any b A1 0 c1 ((w.alloc (.cells #[.bool b, .slice A1 0 c1] 24)).alloc (.cells #[.bool o2, .slice A2 n2 c2] 24))
    have hc2 := fun W (h : Below w.heap.size w W) => only_any y _ false W (hy.up h)
    unfold tv at hc1 hc2 ⊢
    clear hy
    rw [decide_eq_true rfl] at hc1
    cases b with
    | false =>
      clear hc2
      go_enter Tryd.func73, Tryd.ntmps73
      go_wp2_with fail
      refine hc1.mono ?_
      rintro e w1 ⟨rfl, hb1⟩
      obtain ⟨a0, a1, b0, b1, hbel, hbig⟩ := HS0.out.next hb1 (by simp)
      have HB := Lib.hid hbel
      clear hb1 hc1 HS0 hbel hbig
      go_wp2
      go_ret
      exact ⟨ret_bool (by cases y <;> rfl), HB.out⟩
    | true =>
      go_enter Tryd.func73, Tryd.ntmps73
      go_wp2_with fail
      refine hc1.mono ?_
      rintro e w1 ⟨rfl, hb1⟩
      have HS1 := Lib.hid (HS0.out.next hb1 (by simp))
      obtain ⟨a0, a1, b0, b1, _, _⟩ := HS1.out
      have hcall := hc2 w1 HS1.out.bel
      clear hb1 hc1 HS0 hc2
      go_wp2_with fail
      refine hcall.mono ?_
      rintro e w2 ⟨rfl, hb2⟩
      have HB := Lib.hid (HS1.out.next hb2 HS1.out.big).bel
      clear hb2 hcall HS1 a0 a1 b0 b1
      go_wp2
      go_ret
      exact ⟨ret_bool (by rw [bothT_leaf]), HB.out⟩
  | node xl xr ihl ihr =>
    intro y u v w hx hy
    obtain ⟨b, off, c, rfl, hb, ⟨o1, A1, n1, c1, e1, e2, e3⟩, ⟨o2, A2, n2, c2, g1, g2, g3⟩⟩ := id hx
    cases y with
    | leaf q =>
      obtain ⟨A4, c4, rfl⟩ := hy
      have HS0 := Lib.hid (MB.start w false (some ⟨b, off, none⟩) 2 c q A4 0 c4)
      have hc1 := pleaf_any false (some ⟨b, off, none⟩) 2 c ((w.alloc (.cells #[.bool false, .slice (some ⟨b, off, none⟩) 2 c] 24)).alloc (.cells #[.bool q, .slice A4 0 c4] 24))
      have hc2 := fun W => pleaf_any q A4 0 c4 W
      have hc3 := fun W (h : Below w.heap.size w W) => only_any (.node xl xr) _ false W (hx.up h)
      unfold tv at hc1 hc2 hc3 ⊢
      clear hx e1 e2 e3 g1 g2 g3 ihl ihr
      rw [decide_eq_false (by omega)] at hc1
      simp only [decide_true] at hc2
      cases q with
      | false =>
        clear hc3
        go_enter Tryd.func73, Tryd.ntmps73
        go_wp2_with fail
        refine hc1.mono ?_
        rintro e w1 ⟨rfl, hb1⟩
        have HS1 := Lib.hid (HS0.out.next hb1 (by simp))
        obtain ⟨a0, a1, b0, b1, _, _⟩ := HS1.out
        have hcall := hc2 w1
        clear hb1 hc1 HS0 hc2
        go_wp2_with fail
        refine hcall.mono ?_
        rintro e w2 ⟨rfl, hb2⟩
        obtain ⟨a0, a1, b0, b1, hbel, hbig⟩ := HS1.out.next hb2 HS1.out.big
        have HB := Lib.hid hbel
        clear hb2 hcall HS1 hbel hbig
        go_wp2
        go_ret
        exact ⟨ret_bool (by rw [bothT_node]; rfl), HB.out⟩
      | true =>
        go_enter Tryd.func73, Tryd.ntmps73
        go_wp2_with fail
        refine hc1.mono ?_
        rintro e w1 ⟨rfl, hb1⟩
        have HS1 := Lib.hid (HS0.out.next hb1 (by simp))
        obtain ⟨a0, a1, b0, b1, _, _⟩ := HS1.out
        have hcall := hc2 w1
        clear hb1 hc1 HS0 hc2
        go_wp2_with fail
        refine hcall.mono ?_
        rintro e w2 ⟨rfl, hb2⟩
        have HS2 := Lib.hid (HS1.out.next hb2 HS1.out.big)
        clear hb2 hcall HS1 a0 a1 b0 b1
        obtain ⟨a0, a1, b0, b1, _, _⟩ := HS2.out
        have hcall := hc3 w2 HS2.out.bel
        clear hc3
        go_wp2_with fail
        refine hcall.mono ?_
        rintro e w3 ⟨rfl, hb3⟩
        have HB := Lib.hid (HS2.out.next hb3 HS2.out.big).bel
        clear hb3 hcall HS2 a0 a1 b0 b1
        go_wp2
        go_ret
        exact ⟨ret_bool (by rw [bothT_node]; rfl), HB.out⟩
    | node yl yr =>
      obtain ⟨b', off', c', rfl, hb', ⟨o3, A3, n3, c3, e4, e5, e6⟩, ⟨o4, A4, n4, c4, g4, g5, g6⟩⟩ := hy
      have HS0 := Lib.hid (MB.start w false (some ⟨b, off, none⟩) 2 c false (some ⟨b', off', none⟩) 2 c')
      have hc1 := pleaf_any false (some ⟨b, off, none⟩) 2 c ((w.alloc (.cells #[.bool false, .slice (some ⟨b, off, none⟩) 2 c] 24)).alloc (.cells #[.bool false, .slice (some ⟨b', off', none⟩) 2 c'] 24))
      have hc2 := fun W => pleaf_any false (some ⟨b', off', none⟩) 2 c' W
      have HF : Hid (∀ W, MB w false (some ⟨b, off, none⟩) 2 c false (some ⟨b', off', none⟩) 2 c' W → W.cell? ⟨w.heap.size, 1, none⟩ = some (.slice (some ⟨b, off, none⟩) 2 c) ∧ W.cell? ⟨w.heap.size + 1, 1, none⟩ = some (.slice (some ⟨b', off', none⟩) 2 c') ∧
          W.cell? ⟨b, off, none⟩ = some (.bool o1) ∧ W.cell? ⟨b, off + 1, none⟩ = some (.slice A1 n1 c1) ∧ W.cell? ⟨b, off + 2, none⟩ = some (.bool o2) ∧ W.cell? ⟨b, off + 2 + 1, none⟩ = some (.slice A2 n2 c2) ∧
          W.cell? ⟨b', off', none⟩ = some (.bool o3) ∧ W.cell? ⟨b', off' + 1, none⟩ = some (.slice A3 n3 c3) ∧ W.cell? ⟨b', off' + 2, none⟩ = some (.bool o4) ∧ W.cell? ⟨b', off' + 2 + 1, none⟩ = some (.slice A4 n4 c4)) := fun W hW => by
        have low : ∀ i, W.cell? ⟨b, i, none⟩ = w.cell? ⟨b, i, none⟩ := fun i => hW.bel.cell hb
        have low' : ∀ i, W.cell? ⟨b', i, none⟩ = w.cell? ⟨b', i, none⟩ := fun i => hW.bel.cell hb'
        exact ⟨hW.a1, hW.b1, (low _).trans e1, (low _).trans e2, (low _).trans g1, (low _).trans g2, (low' _).trans e4, (low' _).trans e5, (low' _).trans g4, (low' _).trans g5⟩
      have hcx : ∀ W, MB w false (some ⟨b, off, none⟩) 2 c false (some ⟨b', off', none⟩) 2 c' W → Calls Tryd.prog 73 #[.agg #[.bool o1, .slice A1 n1 c1], .agg #[.bool o3, .slice A3 n3 c3]] W fun e w' => e = .returned (.bool (bothT xl yl)) ∧ Below W.heap.size W w' := fun W hW => ihl yl _ _ W (e3.up hW.bel) (e6.up hW.bel)
      have hcy : ∀ W, MB w false (some ⟨b, off, none⟩) 2 c false (some ⟨b', off', none⟩) 2 c' W → Calls Tryd.prog 73 #[.agg #[.bool o2, .slice A2 n2 c2], .agg #[.bool o4, .slice A4 n4 c4]] W fun e w' => e = .returned (.bool (bothT xr yr)) ∧ Below W.heap.size W w' := fun W hW => ihr yr _ _ W (g3.up hW.bel) (g6.up hW.bel)
      unfold tv at hc1 hc2 ⊢
      clear hx e1 e2 e3 g1 g2 g3 e4 e5 e6 g4 g5 g6 ihl ihr
      rw [decide_eq_false (by omega)] at hc1
      simp only [show decide (2 = 0) = false from rfl] at hc2
      go_enter Tryd.func73, Tryd.ntmps73
      go_wp2_with fail
      refine hc1.mono ?_
      rintro e w1 ⟨rfl, hb1⟩
      have HS1 := Lib.hid (HS0.out.next hb1 (by simp))
      obtain ⟨a0, a1, b0, b1, _, _⟩ := HS1.out
      have hcall := hc2 w1
      clear hb1 hc1 HS0 hc2
      go_wp2_with fail
      refine hcall.mono ?_
      rintro e w2 ⟨rfl, hb2⟩
      have HS2 := HS1.out.next hb2 HS1.out.big
      clear hb2 hcall HS1 a0 a1 b0 b1
      go_wp2
      cases hr1 : bothT xl yl with
      | false =>
        rw [hr1] at hcx
        have HR : Hid (bothT (.node xl xr) (.node yl yr) = bothT xr yr) := by show _ = _; rw [bothT, hr1]; rfl
        clear hr1
        refine wp_region_held_drew (S := fun W => MB w false (some ⟨b, off, none⟩) 2 c false (some ⟨b', off', none⟩) 2 c' W) (by kernel_rfl) HS2.drew (fun hS => ?_)
        clear HS2
        generalize w2.drew = wd at hS ⊢
        refine wpAnyH_take (i := 0) (v := ?_) rfl (by kernel_rfl) (by kernel_rfl) (by kernel_rfl) (fun _ _ _ h => h) (Yields.yieldsIf (Or.inl ⟨by kernel_rfl, ?_⟩)) hS ?_
        rotate_left
        · first | (intro w; go_simp; done) | (intro w; go_simp; with_reducible rfl)
        refine wpAnyH_take (i := 1) (v := ?_) rfl (by kernel_rfl) (by kernel_rfl) (by kernel_rfl) (fun _ _ _ h => h) (Or.inl ⟨by kernel_rfl, fun W hW => ?_⟩) hS ?_
        rotate_left
        · obtain ⟨f0, f1, f2, f3, f4, f5, f6, f7, f8, f9⟩ := HF.out W hW
          first | (go_simp; done) | (go_simp; with_reducible rfl)
        refine wpAnyH_take (i := 2) (v := ?_) rfl (by kernel_rfl) (by kernel_rfl) (by kernel_rfl) (fun _ _ _ h => h) (Yields.yieldsIf (Or.inl ⟨by kernel_rfl, ?_⟩)) hS ?_
        rotate_left
        · first | (intro w; go_simp; done) | (intro w; go_simp; with_reducible rfl)
        refine wpAnyH_take (i := 3) (v := ?_) rfl (by kernel_rfl) (by kernel_rfl) (by kernel_rfl) (fun _ _ _ h => h) (Or.inl ⟨by kernel_rfl, fun W hW => ?_⟩) hS ?_
        rotate_left
        · obtain ⟨f0, f1, f2, f3, f4, f5, f6, f7, f8, f9⟩ := HF.out W hW
          first | (go_simp; done) | (go_simp; with_reducible rfl)
        refine wpAnyH_take (i := 4) (v := ?_) rfl (by kernel_rfl) (by kernel_rfl) (by kernel_rfl) (fun _ _ _ h => h) (Yields.yieldsIf (Or.inl ⟨by kernel_rfl, ?_⟩)) hS ?_
        rotate_left
        · first | (intro w; go_simp; done) | (intro w; go_simp; with_reducible rfl)
        refine wpAnyH_take (i := 5) (v := ?_) rfl (by kernel_rfl) (by kernel_rfl) (by kernel_rfl) (fun _ _ _ h => h) (Or.inl ⟨by kernel_rfl, fun W hW => ?_⟩) hS ?_
        rotate_left
        · obtain ⟨f0, f1, f2, f3, f4, f5, f6, f7, f8, f9⟩ := HF.out W hW
          first | (go_simp; done) | (go_simp; with_reducible rfl)
        refine wpAnyH_take (i := 6) (v := ?_) rfl (by kernel_rfl) (by kernel_rfl) (by kernel_rfl) (fun _ _ _ h => h) (Yields.yieldsIf (Or.inl ⟨by kernel_rfl, ?_⟩)) hS ?_
        rotate_left
        · first | (intro w; go_simp; done) | (intro w; go_simp; with_reducible rfl)
        refine wpAnyH_take (i := 7) (v := ?_) rfl (by kernel_rfl) (by kernel_rfl) (by kernel_rfl) (fun _ _ _ h => h) (Or.inl ⟨by kernel_rfl, fun W hW => ?_⟩) hS ?_
        rotate_left
        · obtain ⟨f0, f1, f2, f3, f4, f5, f6, f7, f8, f9⟩ := HF.out W hW
          first | (go_simp; done) | (go_simp; with_reducible rfl)
        refine wpAnyH_ready (rs := [8]) (by kernel_rfl) (by simp) ?_
        refine AllReadyH.cons rfl (fun K hK => ?_) AllReadyH.nil
        go_simp
        go_wp2_with (go_at_call 73; refine (hcx _ hS).mono ?_; rintro e w3 ⟨rfl, hb3⟩)
        have hS3 := hS.next hb3 hS.big
        clear hb3 hS
        refine hK.out _ _ hS3 (fun hS => ?_)
        clear hK K hS3
        refine wpAnyH_take (i := 9) (v := ?_) rfl (by kernel_rfl) (by kernel_rfl) (by kernel_rfl) (fun _ _ _ h => h) (Yields.yieldsIf (Or.inl ⟨by kernel_rfl, ?_⟩)) hS ?_
        rotate_left
        · first | (intro w; go_simp; done) | (intro w; go_simp; with_reducible rfl)
        refine wpAnyH_take (i := 10) (v := ?_) rfl (by kernel_rfl) (by kernel_rfl) (by kernel_rfl) (fun _ _ _ h => h) (Yields.yieldsIf (Or.inl ⟨by kernel_rfl, ?_⟩)) hS ?_
        rotate_left
        · first | (intro w; go_simp; done) | (intro w; go_simp; with_reducible rfl)
        refine wpAnyH_take (i := 11) (v := ?_) rfl (by kernel_rfl) (by kernel_rfl) (by kernel_rfl) (fun _ _ _ h => h) (Or.inl ⟨by kernel_rfl, fun W hW => ?_⟩) hS ?_
        rotate_left
        · obtain ⟨f0, f1, f2, f3, f4, f5, f6, f7, f8, f9⟩ := HF.out W hW
          first | (go_simp; done) | (go_simp; with_reducible rfl)
        refine wpAnyH_take (i := 12) (v := ?_) rfl (by kernel_rfl) (by kernel_rfl) (by kernel_rfl) (fun _ _ _ h => h) (Yields.yieldsIf (Or.inl ⟨by kernel_rfl, ?_⟩)) hS ?_
        rotate_left
        · first | (intro w; go_simp; done) | (intro w; go_simp; with_reducible rfl)
        refine wpAnyH_take (i := 13) (v := ?_) rfl (by kernel_rfl) (by kernel_rfl) (by kernel_rfl) (fun _ _ _ h => h) (Or.inl ⟨by kernel_rfl, fun W hW => ?_⟩) hS ?_
        rotate_left
        · obtain ⟨f0, f1, f2, f3, f4, f5, f6, f7, f8, f9⟩ := HF.out W hW
          first | (go_simp; done) | (go_simp; with_reducible rfl)
        refine wpAnyH_take (i := 14) (v := ?_) rfl (by kernel_rfl) (by kernel_rfl) (by kernel_rfl) (fun _ _ _ h => h) (Yields.yieldsIf (Or.inl ⟨by kernel_rfl, ?_⟩)) hS ?_
        rotate_left
        · first | (intro w; go_simp; done) | (intro w; go_simp; with_reducible rfl)
        refine wpAnyH_take (i := 15) (v := ?_) rfl (by kernel_rfl) (by kernel_rfl) (by kernel_rfl) (fun _ _ _ h => h) (Or.inl ⟨by kernel_rfl, fun W hW => ?_⟩) hS ?_
        rotate_left
        · obtain ⟨f0, f1, f2, f3, f4, f5, f6, f7, f8, f9⟩ := HF.out W hW
          first | (go_simp; done) | (go_simp; with_reducible rfl)
        refine wpAnyH_take (i := 16) (v := ?_) rfl (by kernel_rfl) (by kernel_rfl) (by kernel_rfl) (fun _ _ _ h => h) (Yields.yieldsIf (Or.inl ⟨by kernel_rfl, ?_⟩)) hS ?_
        rotate_left
        · first | (intro w; go_simp; done) | (intro w; go_simp; with_reducible rfl)
        refine wpAnyH_take (i := 17) (v := ?_) rfl (by kernel_rfl) (by kernel_rfl) (by kernel_rfl) (fun _ _ _ h => h) (Or.inl ⟨by kernel_rfl, fun W hW => ?_⟩) hS ?_
        rotate_left
        · obtain ⟨f0, f1, f2, f3, f4, f5, f6, f7, f8, f9⟩ := HF.out W hW
          first | (go_simp; done) | (go_simp; with_reducible rfl)
        refine wpAnyH_ready (rs := [18]) (by kernel_rfl) (by simp) ?_
        refine AllReadyH.cons rfl (fun K hK => ?_) AllReadyH.nil
        go_simp
        go_wp2_with (go_at_call 73; refine (hcy _ hS).mono ?_; rintro e w4 ⟨rfl, hb4⟩)
        have hS3 := hS.next hb4 hS.big
        clear hb4 hS
        refine hK.out _ _ hS3 (fun hS => ?_)
        clear hK K hS3
        refine wpAnyH_take (i := 19) (v := ?_) rfl (by kernel_rfl) (by kernel_rfl) (by kernel_rfl) (fun _ _ _ h => h) (Yields.yieldsIf (Or.inl ⟨by kernel_rfl, ?_⟩)) hS ?_
        rotate_left
        · first | (intro w; go_simp; done) | (intro w; go_simp; with_reducible rfl)
        refine wpAnyH_take (i := 20) (v := ?_) rfl (by kernel_rfl) (by kernel_rfl) (by kernel_rfl) (fun _ _ _ h => h) (Yields.yieldsIf (Or.inl ⟨by kernel_rfl, ?_⟩)) hS ?_
        rotate_left
        · first | (intro w; go_simp; done) | (intro w; go_simp; with_reducible rfl)
        refine wpAnyH_done (by kernel_rfl) ?_ _
        have HB := Lib.hid hS.bel
        clear hS hcx hcy HF
        go_wp2
        go_ret
        exact ⟨ret_bool (by rw [HR.out]), HB.out⟩
      | true =>
        rw [hr1] at hcx
        have HR : Hid (bothT (.node xl xr) (.node yl yr) = true) := by show _ = _; rw [bothT, hr1]; rfl
        clear hr1
        refine wp_region_held_drew (S := fun W => MB w false (some ⟨b, off, none⟩) 2 c false (some ⟨b', off', none⟩) 2 c' W) (by kernel_rfl) HS2.drew (fun hS => ?_)
        clear HS2
        generalize w2.drew = wd at hS ⊢
        refine wpAnyH_take (i := 0) (v := ?_) rfl (by kernel_rfl) (by kernel_rfl) (by kernel_rfl) (fun _ _ _ h => h) (Yields.yieldsIf (Or.inl ⟨by kernel_rfl, ?_⟩)) hS ?_
        rotate_left
        · first | (intro w; go_simp; done) | (intro w; go_simp; with_reducible rfl)
        refine wpAnyH_take (i := 1) (v := ?_) rfl (by kernel_rfl) (by kernel_rfl) (by kernel_rfl) (fun _ _ _ h => h) (Or.inl ⟨by kernel_rfl, fun W hW => ?_⟩) hS ?_
        rotate_left
        · obtain ⟨f0, f1, f2, f3, f4, f5, f6, f7, f8, f9⟩ := HF.out W hW
          first | (go_simp; done) | (go_simp; with_reducible rfl)
        refine wpAnyH_take (i := 2) (v := ?_) rfl (by kernel_rfl) (by kernel_rfl) (by kernel_rfl) (fun _ _ _ h => h) (Yields.yieldsIf (Or.inl ⟨by kernel_rfl, ?_⟩)) hS ?_
        rotate_left
        · first | (intro w; go_simp; done) | (intro w; go_simp; with_reducible rfl)
        refine wpAnyH_take (i := 3) (v := ?_) rfl (by kernel_rfl) (by kernel_rfl) (by kernel_rfl) (fun _ _ _ h => h) (Or.inl ⟨by kernel_rfl, fun W hW => ?_⟩) hS ?_
        rotate_left
        · obtain ⟨f0, f1, f2, f3, f4, f5, f6, f7, f8, f9⟩ := HF.out W hW
          first | (go_simp; done) | (go_simp; with_reducible rfl)
        refine wpAnyH_take (i := 4) (v := ?_) rfl (by kernel_rfl) (by kernel_rfl) (by kernel_rfl) (fun _ _ _ h => h) (Yields.yieldsIf (Or.inl ⟨by kernel_rfl, ?_⟩)) hS ?_
        rotate_left
        · first | (intro w; go_simp; done) | (intro w; go_simp; with_reducible rfl)
        refine wpAnyH_take (i := 5) (v := ?_) rfl (by kernel_rfl) (by kernel_rfl) (by kernel_rfl) (fun _ _ _ h => h) (Or.inl ⟨by kernel_rfl, fun W hW => ?_⟩) hS ?_
        rotate_left
        · obtain ⟨f0, f1, f2, f3, f4, f5, f6, f7, f8, f9⟩ := HF.out W hW
          first | (go_simp; done) | (go_simp; with_reducible rfl)
        refine wpAnyH_take (i := 6) (v := ?_) rfl (by kernel_rfl) (by kernel_rfl) (by kernel_rfl) (fun _ _ _ h => h) (Yields.yieldsIf (Or.inl ⟨by kernel_rfl, ?_⟩)) hS ?_
        rotate_left
        · first | (intro w; go_simp; done) | (intro w; go_simp; with_reducible rfl)
        refine wpAnyH_take (i := 7) (v := ?_) rfl (by kernel_rfl) (by kernel_rfl) (by kernel_rfl) (fun _ _ _ h => h) (Or.inl ⟨by kernel_rfl, fun W hW => ?_⟩) hS ?_
        rotate_left
        · obtain ⟨f0, f1, f2, f3, f4, f5, f6, f7, f8, f9⟩ := HF.out W hW
          first | (go_simp; done) | (go_simp; with_reducible rfl)
        refine wpAnyH_ready (rs := [8]) (by kernel_rfl) (by simp) ?_
        refine AllReadyH.cons rfl (fun K hK => ?_) AllReadyH.nil
        go_simp
        go_wp2_with (go_at_call 73; refine (hcx _ hS).mono ?_; rintro e w3 ⟨rfl, hb3⟩)
        have hS3 := hS.next hb3 hS.big
        clear hb3 hS
        refine hK.out _ _ hS3 (fun hS => ?_)
        clear hK K hS3
        refine wpAnyH_take (i := 9) (v := ?_) rfl (by kernel_rfl) (by kernel_rfl) (by kernel_rfl) (fun _ _ _ h => h) (Yields.yieldsIf (Or.inl ⟨by kernel_rfl, ?_⟩)) hS ?_
        rotate_left
        · first | (intro w; go_simp; done) | (intro w; go_simp; with_reducible rfl)
        refine wpAnyH_take (i := 10) (v := undef) rfl (by kernel_rfl) (by kernel_rfl) (by kernel_rfl) (fun _ _ _ h => h) (Or.inr ⟨by kernel_rfl, rfl⟩) hS ?_
        refine wpAnyH_take (i := 11) (v := undef) rfl (by kernel_rfl) (by kernel_rfl) (by kernel_rfl) (fun _ _ _ h => h) (Or.inr ⟨by kernel_rfl, rfl⟩) hS ?_
        refine wpAnyH_take (i := 12) (v := undef) rfl (by kernel_rfl) (by kernel_rfl) (by kernel_rfl) (fun _ _ _ h => h) (Or.inr ⟨by kernel_rfl, rfl⟩) hS ?_
        refine wpAnyH_take (i := 13) (v := undef) rfl (by kernel_rfl) (by kernel_rfl) (by kernel_rfl) (fun _ _ _ h => h) (Or.inr ⟨by kernel_rfl, rfl⟩) hS ?_
        refine wpAnyH_take (i := 14) (v := undef) rfl (by kernel_rfl) (by kernel_rfl) (by kernel_rfl) (fun _ _ _ h => h) (Or.inr ⟨by kernel_rfl, rfl⟩) hS ?_
        refine wpAnyH_take (i := 15) (v := undef) rfl (by kernel_rfl) (by kernel_rfl) (by kernel_rfl) (fun _ _ _ h => h) (Or.inr ⟨by kernel_rfl, rfl⟩) hS ?_
        refine wpAnyH_take (i := 16) (v := undef) rfl (by kernel_rfl) (by kernel_rfl) (by kernel_rfl) (fun _ _ _ h => h) (Or.inr ⟨by kernel_rfl, rfl⟩) hS ?_
        refine wpAnyH_take (i := 17) (v := undef) rfl (by kernel_rfl) (by kernel_rfl) (by kernel_rfl) (fun _ _ _ h => h) (Or.inr ⟨by kernel_rfl, rfl⟩) hS ?_
        refine wpAnyH_take (i := 18) (v := undef) rfl (by kernel_rfl) (by kernel_rfl) (by kernel_rfl) (fun _ _ _ h => h) (Or.inr ⟨by kernel_rfl, rfl⟩) hS ?_
        go_simp
        refine wpAnyH_take (i := 19) (v := ?_) rfl (by kernel_rfl) (by kernel_rfl) (by kernel_rfl) (fun _ _ _ h => h) (Yields.yieldsIf (Or.inl ⟨by kernel_rfl, ?_⟩)) hS ?_
        rotate_left
        · first | (intro w; go_simp; done) | (intro w; go_simp; with_reducible rfl)
        refine wpAnyH_take (i := 20) (v := ?_) rfl (by kernel_rfl) (by kernel_rfl) (by kernel_rfl) (fun _ _ _ h => h) (Yields.yieldsIf (Or.inl ⟨by kernel_rfl, ?_⟩)) hS ?_
        rotate_left
        · first | (intro w; go_simp; done) | (intro w; go_simp; with_reducible rfl)
        go_simp
        refine wpAnyH_done (by kernel_rfl) ?_ _
        have HB := Lib.hid hS.bel
        clear hS hcx hcy HF
        go_wp2
        go_ret
        exact ⟨ret_bool (by rw [HR.out]), HB.out⟩

end Go.Proofs.YtoaglkjpjolacaaDoor.I
