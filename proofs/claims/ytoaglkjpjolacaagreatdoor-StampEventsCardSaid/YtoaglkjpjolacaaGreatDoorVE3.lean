/-
  The program's leq.
-/
import Derived.Test.YtoaglkjpjolacaaGreatDoorVE2
import Derived.BigQuiet
namespace Go.Proofs.YtoaglkjpjolacaaGreatDoor.E
open Go.RowKit
set_option maxRecDepth 100000 in
set_option maxHeartbeats 3200000 in
theorem leq_leaf (n : Int) (b : Tr) (x y : Int) (P : Nat → Prop) (A : Option Addr) (c : Nat) (v : Value) (w : World) (hb : InP P w b v) (hx : 0 ≤ x) (hy : 0 ≤ y) (hx2 : x ≤ 4611686018427387904) (hy2 : y ≤ 4611686018427387904) (hn : 0 ≤ n) (hn2 : n ≤ 4611686018427387904 - x) (hob : b.okc (4611686018427387904 - y) = true) :
    Calls Tryz.prog 74 #[tv n A 0 c, v, .int .i64 x, .int .i64 y] w fun e w' => e = .returned (.bool (decide (x + n ≤ y + low b))) ∧ Below w.heap.size w w' := by
  obtain ⟨A2, n2, c2, rfl⟩ := hb.form
  have HE : Hid (∀ W, Below w.heap.size w W → Calls Tryz.prog 138 #[tv b.N A2 n2 c2, .int .i64 y] W fun e w' => e = .returned (.tuple #[.int .i64 (y + low b), .int .i64 (y + high b)]) ∧ Below W.heap.size W w') := fun W hW => ends_any b y P _ W (hb.stay hW) hy hy2 hob
  clear hb hob
  generalize b.N = o2 at *
  obtain ⟨L, hL⟩ : ∃ L, y + low b = L := ⟨_, rfl⟩
  obtain ⟨M, hM⟩ : ∃ M, y + high b = M := ⟨_, rfl⟩
  rw [hL, hM] at HE
  rw [hL]
  clear hL hM
  have HX := Lib.hid (((XS.begin w).boxed (.int .i64 n) (.slice A 0 c) 27).boxed (.int .i64 o2) (.slice A2 n2 c2) 27)
  simp only [List.nil_append, List.cons_append, World.size_alloc] at HX
  have hc := pleaf_any n A 0 c ((w.alloc (.cells #[.int .i64 n, .slice A 0 c] 27)).alloc (.cells #[.int .i64 o2, .slice A2 n2 c2] 27))
  unfold tv at *
  go_enter Tryz.func74, Tryz.ntmps74
  go_wp2_with fail
  refine hc.mono ?_
  rintro e w1 ⟨rfl, hb1⟩
  have HX1 := Lib.hid (HX.out.next hb1)
  have f := HX1.out.at0
  simp only [List.mem_cons, List.not_mem_nil, or_false, forall_eq_or_imp, forall_eq] at f
  obtain ⟨p0, p1, p2, p3⟩ := f
  have hcE := HE.out w1 HX1.out.bel
  clear hb1 hc HX HE
  go_wp2_with fail
  refine hcE.mono ?_
  rintro e w2 ⟨rfl, hb2⟩
  have HX2 := Lib.hid (HX1.out.next hb2)
  clear p0 p1 p2 p3
  have f := HX2.out.at0
  simp only [List.mem_cons, List.not_mem_nil, or_false, forall_eq_or_imp, forall_eq] at f
  obtain ⟨p0, p1, p2, p3⟩ := f
  clear hb2 hcE HX1
  go_wp2
  go_ret
  exact ⟨ret_bool (by first | rfl | simp), HX2.out.bel⟩

set_option maxRecDepth 100000 in
set_option maxHeartbeats 3200000 in
theorem leq_nleaf (a : Tr) (n : Int) (x y : Int) (P : Nat → Prop) (u : Value) (A : Option Addr) (c : Nat) (w : World) (ha : InP P w a u) (hna : ∀ m, a ≠ .leaf m) (hx : 0 ≤ x) (hy : 0 ≤ y) (hx2 : x ≤ 4611686018427387904) (hy2 : y ≤ 4611686018427387904) (hn : 0 ≤ n) (hn2 : n ≤ 4611686018427387904 - y) (hoa : a.okc (4611686018427387904 - x) = true) :
    Calls Tryz.prog 74 #[u, tv n A 0 c, .int .i64 x, .int .i64 y] w fun e w' => e = .returned (.bool (decide (x + high a ≤ y + n))) ∧ Below w.heap.size w w' := by
  obtain ⟨A1, n1, c1, rfl⟩ := ha.form
  have h1 : n1 ≠ 0 := by
    rcases ha.leafy with ⟨_, h⟩ | ⟨h, _⟩
    · exact absurd h (hna _)
    · omega
  have HE : Hid (∀ W, Below w.heap.size w W → Calls Tryz.prog 138 #[tv a.N A1 n1 c1, .int .i64 x] W fun e w' => e = .returned (.tuple #[.int .i64 (x + low a), .int .i64 (x + high a)]) ∧ Below W.heap.size W w') := fun W hW => ends_any a x P _ W (ha.stay hW) hx hx2 hoa
  clear ha hoa hna
  generalize a.N = o1 at *
  obtain ⟨L, hL⟩ : ∃ L, x + low a = L := ⟨_, rfl⟩
  obtain ⟨M, hM⟩ : ∃ M, x + high a = M := ⟨_, rfl⟩
  rw [hL, hM] at HE
  rw [hM]
  clear hL hM
  have HX := Lib.hid (((XS.begin w).boxed (.int .i64 o1) (.slice A1 n1 c1) 27).boxed (.int .i64 n) (.slice A 0 c) 27)
  simp only [List.nil_append, List.cons_append, World.size_alloc] at HX
  have hc := pleaf_any o1 A1 n1 c1 ((w.alloc (.cells #[.int .i64 o1, .slice A1 n1 c1] 27)).alloc (.cells #[.int .i64 n, .slice A 0 c] 27))
  rw [decide_eq_false h1] at hc
  have hc2 := fun W => pleaf_any n A 0 c W
  unfold tv at *
  clear h1
  go_enter Tryz.func74, Tryz.ntmps74
  go_wp2_with fail
  refine hc.mono ?_
  rintro e w1 ⟨rfl, hb1⟩
  have HX1 := Lib.hid (HX.out.next hb1)
  have f := HX1.out.at0
  simp only [List.mem_cons, List.not_mem_nil, or_false, forall_eq_or_imp, forall_eq] at f
  obtain ⟨p0, p1, p2, p3⟩ := f
  clear hb1 hc HX
  go_wp2_with fail
  refine (hc2 w1).mono ?_
  rintro e w2 ⟨rfl, hb2⟩
  have HX2 := Lib.hid (HX1.out.next hb2)
  clear p0 p1 p2 p3
  have f := HX2.out.at0
  simp only [List.mem_cons, List.not_mem_nil, or_false, forall_eq_or_imp, forall_eq] at f
  obtain ⟨p0, p1, p2, p3⟩ := f
  have hcE := HE.out w2 HX2.out.bel
  clear hb2 hc2 HX1 HE
  go_wp2_with fail
  refine hcE.mono ?_
  rintro e w3 ⟨rfl, hb3⟩
  have HX3 := Lib.hid (HX2.out.next hb3)
  clear p0 p1 p2 p3
  have f := HX3.out.at0
  simp only [List.mem_cons, List.not_mem_nil, or_false, forall_eq_or_imp, forall_eq] at f
  obtain ⟨p0, p1, p2, p3⟩ := f
  clear hb3 hcE HX2
  go_wp2
  go_ret
  exact ⟨ret_bool (by first | rfl | simp), HX3.out.bel⟩

set_option maxRecDepth 100000 in
set_option maxHeartbeats 6400000 in
theorem leq_any : ∀ (a b : Tr) (x y : Int) (P : Nat → Prop) (u v : Value) (w : World), InP P w a u → InP P w b v → 0 ≤ x → 0 ≤ y → x ≤ 4611686018427387904 → y ≤ 4611686018427387904 → a.okc (4611686018427387904 - x) = true → b.okc (4611686018427387904 - y) = true →
    Calls Tryz.prog 74 #[u, v, .int .i64 x, .int .i64 y] w fun e w' => e = .returned (.bool (leqT a b x y)) ∧ Below w.heap.size w w' := by
  intro a
  induction a with
  | leaf n =>
    rintro b x y P u v w ⟨A, c, rfl⟩ hb hx hy hx2 hy2 hoa hob
    have := okc_N _ _ hoa
    simp only [Tr.N] at this
    exact leq_leaf n b x y P A c v w hb hx hy hx2 hy2 this.1 this.2 hob
  | node n l r ihl ihr =>
    rintro b x y P u v w ha hb hx hy hx2 hy2 hoa hob
    cases b with
    | leaf m =>
      obtain ⟨A, c, rfl⟩ := hb
      have := okc_N _ _ hob
      simp only [Tr.N] at this
      exact leq_nleaf (.node n l r) m x y P u A c w ha (by simp) hx hy hx2 hy2 this.1 this.2 hoa
    | node m p q =>
      obtain ⟨b1, off1, c1, rfl, hb1, ⟨o1, A1, n1, d1, e1, e2, e3⟩, ⟨o2, A2, n2, d2, g1, g2, g3⟩⟩ := ha
      obtain ⟨b2, off2, c2, rfl, hb2, ⟨o3, A3, n3, d3, k1, k2, k3⟩, ⟨o4, A4, n4, d4, j1, j2, j3⟩⟩ := hb
      have hbs1 : b1 < w.heap.size := World.block_lt_of_cell? w _ e1
      have hbs2 : b2 < w.heap.size := World.block_lt_of_cell? w _ k1
      simp only [Tr.okc, Bool.and_eq_true_iff, decide_eq_true_eq] at hoa hob
      have ex : (4611686018427387904 : Int) - (x + n) = 4611686018427387904 - x - n := by omega
      have ey : (4611686018427387904 : Int) - (y + m) = 4611686018427387904 - y - m := by omega
      have HC1 : Hid (∀ W, Below w.heap.size w W → Calls Tryz.prog 74 #[.agg #[.int .i64 o1, .slice A1 n1 d1], .agg #[.int .i64 o3, .slice A3 n3 d3], .int .i64 (x + n), .int .i64 (y + m)] W fun e w' => e = .returned (.bool (leqT l p (x + n) (y + m))) ∧ Below W.heap.size W w') := fun W hW => ihl p _ _ P _ _ W (e3.stay hW) (k3.stay hW) (by omega) (by omega) (by omega) (by omega) (by rw [ex]; exact hoa.2.1) (by rw [ey]; exact hob.2.1)
      have HC2 : Hid (∀ W, Below w.heap.size w W → Calls Tryz.prog 74 #[.agg #[.int .i64 o2, .slice A2 n2 d2], .agg #[.int .i64 o4, .slice A4 n4 d4], .int .i64 (x + n), .int .i64 (y + m)] W fun e w' => e = .returned (.bool (leqT r q (x + n) (y + m))) ∧ Below W.heap.size W w') := fun W hW => ihr q _ _ P _ _ W (g3.stay hW) (j3.stay hW) (by omega) (by omega) (by omega) (by omega) (by rw [ex]; exact hoa.2.2) (by rw [ey]; exact hob.2.2)
      have HR : Hid (leqT (.node n l r) (.node m p q) x y = (leqT l p (x + n) (y + m) && leqT r q (x + n) (y + m))) := rfl
      have HX := Lib.hid (((XS.begin w).boxed (.int .i64 n) (.slice (some ⟨b1, off1, none⟩) 2 c1) 27).boxed (.int .i64 m) (.slice (some ⟨b2, off2, none⟩) 2 c2) 27)
      simp only [List.nil_append, List.cons_append, World.size_alloc] at HX
      have HF : Hid (∀ W, XS w [(w.heap.size, 0, .int .i64 n), (w.heap.size, 1, .slice (some ⟨b1, off1, none⟩) 2 c1), (w.heap.size + 1, 0, .int .i64 m), (w.heap.size + 1, 1, .slice (some ⟨b2, off2, none⟩) 2 c2)] [w.heap.size, w.heap.size + 1] W → W.cell? ⟨w.heap.size, 0, none⟩ = some (.int .i64 n) ∧ W.cell? ⟨w.heap.size, 1, none⟩ = some (.slice (some ⟨b1, off1, none⟩) 2 c1) ∧ W.cell? ⟨w.heap.size + 1, 0, none⟩ = some (.int .i64 m) ∧ W.cell? ⟨w.heap.size + 1, 1, none⟩ = some (.slice (some ⟨b2, off2, none⟩) 2 c2) ∧ W.cell? ⟨b1, off1, none⟩ = some (.int .i64 o1) ∧ W.cell? ⟨b1, off1 + 1, none⟩ = some (.slice A1 n1 d1) ∧ W.cell? ⟨b1, off1 + 2, none⟩ = some (.int .i64 o2) ∧ W.cell? ⟨b1, off1 + 2 + 1, none⟩ = some (.slice A2 n2 d2) ∧ W.cell? ⟨b2, off2, none⟩ = some (.int .i64 o3) ∧ W.cell? ⟨b2, off2 + 1, none⟩ = some (.slice A3 n3 d3) ∧ W.cell? ⟨b2, off2 + 2, none⟩ = some (.int .i64 o4) ∧ W.cell? ⟨b2, off2 + 2 + 1, none⟩ = some (.slice A4 n4 d4)) := fun W hW => by
        have low1 : ∀ i, W.cell? ⟨b1, i, none⟩ = w.cell? ⟨b1, i, none⟩ := fun i => hW.bel.cell hbs1
        have low2 : ∀ i, W.cell? ⟨b2, i, none⟩ = w.cell? ⟨b2, i, none⟩ := fun i => hW.bel.cell hbs2
        exact ⟨hW.get (by simp), hW.get (by simp), hW.get (by simp), hW.get (by simp), (low1 _).trans e1, (low1 _).trans e2, (low1 _).trans g1, (low1 _).trans g2, (low2 _).trans k1, (low2 _).trans k2, (low2 _).trans j1, (low2 _).trans j2⟩
      have hc := pleaf_any n (some ⟨b1, off1, none⟩) 2 c1 ((w.alloc (.cells #[.int .i64 n, .slice (some ⟨b1, off1, none⟩) 2 c1] 27)).alloc (.cells #[.int .i64 m, .slice (some ⟨b2, off2, none⟩) 2 c2] 27))
      have hc2 := fun W => pleaf_any m (some ⟨b2, off2, none⟩) 2 c2 W
      have hw1 : IntKind.i64.wrap (x + n) = x + n := wrap_id (by omega) (by omega)
      have hw2 : IntKind.i64.wrap (y + m) = y + m := wrap_id (by omega) (by omega)
      have hn0 := hoa.1
      have hm0 := hob.1
      unfold tv at *
      clear ihl ihr e1 e2 e3 g1 g2 g3 k1 k2 k3 j1 j2 j3 hoa hob hbs1 hbs2 ex ey hb1 hb2
      go_enter Tryz.func74, Tryz.ntmps74
      go_wp2_with fail
      refine hc.mono ?_
      rintro e w1 ⟨rfl, hb1⟩
      have HX1 := Lib.hid (HX.out.next hb1)
      have f := HX1.out.at0
      simp only [List.mem_cons, List.not_mem_nil, or_false, forall_eq_or_imp, forall_eq] at f
      obtain ⟨p0, p1, p2, p3⟩ := f
      clear hb1 hc HX
      go_wp2_with fail
      refine (hc2 w1).mono ?_
      rintro e w2 ⟨rfl, hb2⟩
      have hXD := (HX1.out.next hb2).drew
      clear hb2 hc2 HX1 p0 p1 p2 p3
      go_wp2
      refine wp_region_held_drew (S := fun W => XS w [(w.heap.size, 0, .int .i64 n), (w.heap.size, 1, .slice (some ⟨b1, off1, none⟩) 2 c1), (w.heap.size + 1, 0, .int .i64 m), (w.heap.size + 1, 1, .slice (some ⟨b2, off2, none⟩) 2 c2)] [w.heap.size, w.heap.size + 1] W) (by kernel_rfl) hXD (fun hS => ?_)
      clear hXD
      generalize w2.drew = wd at hS ⊢
      refine wpAnyH_take (i := 0) (v := ?_) rfl (by kernel_rfl) (by kernel_rfl) (by kernel_rfl) (fun _ _ _ h => h) (Yields.yieldsIf (Or.inl ⟨by kernel_rfl, ?_⟩)) hS ?_
      rotate_left
      · first | (intro w; go_simp; done) | (intro w; go_simp; with_reducible rfl)
      refine wpAnyH_take (i := 1) (v := ?_) rfl (by kernel_rfl) (by kernel_rfl) (by kernel_rfl) (fun _ _ _ h => h) (Yields.yieldsIf (Or.inl ⟨by kernel_rfl, ?_⟩)) hS ?_
      rotate_left
      · first | (intro w; go_simp; done) | (intro w; go_simp; with_reducible rfl)
      refine wpAnyH_take (i := 2) (v := ?_) rfl (by kernel_rfl) (by kernel_rfl) (by kernel_rfl) (fun _ _ _ h => h) (Or.inl ⟨by kernel_rfl, fun W hW => ?_⟩) hS ?_
      rotate_left
      · obtain ⟨f0, f1, f2, f3, f4, f5, f6, f7, f8, f9, f10, f11⟩ := HF.out W hW
        first | (go_simp; done) | (go_simp; with_reducible rfl)
      refine wpAnyH_take (i := 3) (v := ?_) rfl (by kernel_rfl) (by kernel_rfl) (by kernel_rfl) (fun _ _ _ h => h) (Yields.yieldsIf (Or.inl ⟨by kernel_rfl, ?_⟩)) hS ?_
      rotate_left
      · first | (intro w; go_simp; done) | (intro w; go_simp; with_reducible rfl)
      refine wpAnyH_take (i := 4) (v := ?_) rfl (by kernel_rfl) (by kernel_rfl) (by kernel_rfl) (fun _ _ _ h => h) (Yields.yieldsIf (Or.inl ⟨by kernel_rfl, ?_⟩)) hS ?_
      rotate_left
      · first | (intro w; go_simp; done) | (intro w; go_simp; with_reducible rfl)
      refine wpAnyH_take (i := 5) (v := ?_) rfl (by kernel_rfl) (by kernel_rfl) (by kernel_rfl) (fun _ _ _ h => h) (Yields.yieldsIf (Or.inl ⟨by kernel_rfl, ?_⟩)) hS ?_
      rotate_left
      · first | (intro w; go_simp; done) | (intro w; go_simp; with_reducible rfl)
      refine wpAnyH_take (i := 6) (v := ?_) rfl (by kernel_rfl) (by kernel_rfl) (by kernel_rfl) (fun _ _ _ h => h) (Or.inl ⟨by kernel_rfl, fun W hW => ?_⟩) hS ?_
      rotate_left
      · obtain ⟨f0, f1, f2, f3, f4, f5, f6, f7, f8, f9, f10, f11⟩ := HF.out W hW
        first | (go_simp; done) | (go_simp; with_reducible rfl)
      refine wpAnyH_take (i := 7) (v := ?_) rfl (by kernel_rfl) (by kernel_rfl) (by kernel_rfl) (fun _ _ _ h => h) (Yields.yieldsIf (Or.inl ⟨by kernel_rfl, ?_⟩)) hS ?_
      rotate_left
      · first | (intro w; go_simp; done) | (intro w; go_simp; with_reducible rfl)
      refine wpAnyH_take (i := 8) (v := ?_) rfl (by kernel_rfl) (by kernel_rfl) (by kernel_rfl) (fun _ _ _ h => h) (Yields.yieldsIf (Or.inl ⟨by kernel_rfl, ?_⟩)) hS ?_
      rotate_left
      · first | (intro w; go_simp; done) | (intro w; go_simp; with_reducible rfl)
      refine wpAnyH_take (i := 9) (v := ?_) rfl (by kernel_rfl) (by kernel_rfl) (by kernel_rfl) (fun _ _ _ h => h) (Yields.yieldsIf (Or.inl ⟨by kernel_rfl, ?_⟩)) hS ?_
      rotate_left
      · first | (intro w; go_simp; done) | (intro w; go_simp; with_reducible rfl)
      refine wpAnyH_done (by kernel_rfl) ?_ _
      have hXD := hS.drew
      clear hS
      obtain ⟨B1, hB1⟩ : ∃ B, leqT l p (x + n) (y + m) = B := ⟨_, rfl⟩
      obtain ⟨B2, hB2⟩ : ∃ B, leqT r q (x + n) (y + m) = B := ⟨_, rfl⟩
      rw [hB1] at HC1 HR
      rw [hB2] at HC2 HR
      clear hB1 hB2
      go_wp2
      refine wp_region_held_drew (S := fun W => XS w [(w.heap.size, 0, .int .i64 n), (w.heap.size, 1, .slice (some ⟨b1, off1, none⟩) 2 c1), (w.heap.size + 1, 0, .int .i64 m), (w.heap.size + 1, 1, .slice (some ⟨b2, off2, none⟩) 2 c2)] [w.heap.size, w.heap.size + 1] W) (by kernel_rfl) hXD (fun hS => ?_)
      clear hXD
      generalize wd.drew = we at hS ⊢
      cases B1 with
      | true =>
        refine wpAnyH_take (i := 0) (v := ?_) rfl (by kernel_rfl) (by kernel_rfl) (by kernel_rfl) (fun _ _ _ h => h) (Yields.yieldsIf (Or.inl ⟨by kernel_rfl, ?_⟩)) hS ?_
        rotate_left
        · first | (intro w; go_simp; done) | (intro w; go_simp; with_reducible rfl)
        refine wpAnyH_take (i := 1) (v := ?_) rfl (by kernel_rfl) (by kernel_rfl) (by kernel_rfl) (fun _ _ _ h => h) (Or.inl ⟨by kernel_rfl, fun W hW => ?_⟩) hS ?_
        rotate_left
        · obtain ⟨f0, f1, f2, f3, f4, f5, f6, f7, f8, f9, f10, f11⟩ := HF.out W hW
          first | (go_simp; done) | (go_simp; with_reducible rfl)
        refine wpAnyH_take (i := 2) (v := ?_) rfl (by kernel_rfl) (by kernel_rfl) (by kernel_rfl) (fun _ _ _ h => h) (Yields.yieldsIf (Or.inl ⟨by kernel_rfl, ?_⟩)) hS ?_
        rotate_left
        · first | (intro w; go_simp; done) | (intro w; go_simp; with_reducible rfl)
        refine wpAnyH_take (i := 3) (v := ?_) rfl (by kernel_rfl) (by kernel_rfl) (by kernel_rfl) (fun _ _ _ h => h) (Or.inl ⟨by kernel_rfl, fun W hW => ?_⟩) hS ?_
        rotate_left
        · obtain ⟨f0, f1, f2, f3, f4, f5, f6, f7, f8, f9, f10, f11⟩ := HF.out W hW
          first | (go_simp; done) | (go_simp; with_reducible rfl)
        refine wpAnyH_take (i := 4) (v := ?_) rfl (by kernel_rfl) (by kernel_rfl) (by kernel_rfl) (fun _ _ _ h => h) (Yields.yieldsIf (Or.inl ⟨by kernel_rfl, ?_⟩)) hS ?_
        rotate_left
        · first | (intro w; go_simp; done) | (intro w; go_simp; with_reducible rfl)
        refine wpAnyH_take (i := 5) (v := ?_) rfl (by kernel_rfl) (by kernel_rfl) (by kernel_rfl) (fun _ _ _ h => h) (Or.inl ⟨by kernel_rfl, fun W hW => ?_⟩) hS ?_
        rotate_left
        · obtain ⟨f0, f1, f2, f3, f4, f5, f6, f7, f8, f9, f10, f11⟩ := HF.out W hW
          first | (go_simp; done) | (go_simp; with_reducible rfl)
        refine wpAnyH_take (i := 6) (v := ?_) rfl (by kernel_rfl) (by kernel_rfl) (by kernel_rfl) (fun _ _ _ h => h) (Yields.yieldsIf (Or.inl ⟨by kernel_rfl, ?_⟩)) hS ?_
        rotate_left
        · first | (intro w; go_simp; done) | (intro w; go_simp; with_reducible rfl)
        refine wpAnyH_take (i := 7) (v := ?_) rfl (by kernel_rfl) (by kernel_rfl) (by kernel_rfl) (fun _ _ _ h => h) (Or.inl ⟨by kernel_rfl, fun W hW => ?_⟩) hS ?_
        rotate_left
        · obtain ⟨f0, f1, f2, f3, f4, f5, f6, f7, f8, f9, f10, f11⟩ := HF.out W hW
          first | (go_simp; done) | (go_simp; with_reducible rfl)
        refine wpAnyH_take (i := 8) (v := ?_) rfl (by kernel_rfl) (by kernel_rfl) (by kernel_rfl) (fun _ _ _ h => h) (Yields.yieldsIf (Or.inl ⟨by kernel_rfl, ?_⟩)) hS ?_
        rotate_left
        · first | (intro w; go_simp; done) | (intro w; go_simp; with_reducible rfl)
        refine wpAnyH_take (i := 9) (v := ?_) rfl (by kernel_rfl) (by kernel_rfl) (by kernel_rfl) (fun _ _ _ h => h) (Yields.yieldsIf (Or.inl ⟨by kernel_rfl, ?_⟩)) hS ?_
        rotate_left
        · first | (intro w; go_simp; done) | (intro w; go_simp; with_reducible rfl)
        refine wpAnyH_ready (rs := [10]) (by kernel_rfl) (by simp) ?_
        refine AllReadyH.cons rfl (fun K hK => ?_) AllReadyH.nil
        go_simp
        go_wp2_with (go_at_call 74; refine (HC1.out _ hS.bel).mono ?_; rintro e w5 ⟨rfl, hb5⟩)
        have hS3 := hS.next hb5
        clear hb5 hS HC1
        refine hK.out _ _ hS3 (fun hS => ?_)
        clear hK K hS3
        refine wpAnyH_take (i := 11) (v := ?_) rfl (by kernel_rfl) (by kernel_rfl) (by kernel_rfl) (fun _ _ _ h => h) (Yields.yieldsIf (Or.inl ⟨by kernel_rfl, ?_⟩)) hS ?_
        rotate_left
        · first | (intro w; go_simp; done) | (intro w; go_simp; with_reducible rfl)
        refine wpAnyH_take (i := 12) (v := ?_) rfl (by kernel_rfl) (by kernel_rfl) (by kernel_rfl) (fun _ _ _ h => h) (Yields.yieldsIf (Or.inl ⟨by kernel_rfl, ?_⟩)) hS ?_
        rotate_left
        · first | (intro w; go_simp; done) | (intro w; go_simp; with_reducible rfl)
        refine wpAnyH_take (i := 13) (v := ?_) rfl (by kernel_rfl) (by kernel_rfl) (by kernel_rfl) (fun _ _ _ h => h) (Or.inl ⟨by kernel_rfl, fun W hW => ?_⟩) hS ?_
        rotate_left
        · obtain ⟨f0, f1, f2, f3, f4, f5, f6, f7, f8, f9, f10, f11⟩ := HF.out W hW
          first | (go_simp; done) | (go_simp; with_reducible rfl)
        refine wpAnyH_take (i := 14) (v := ?_) rfl (by kernel_rfl) (by kernel_rfl) (by kernel_rfl) (fun _ _ _ h => h) (Yields.yieldsIf (Or.inl ⟨by kernel_rfl, ?_⟩)) hS ?_
        rotate_left
        · first | (intro w; go_simp; done) | (intro w; go_simp; with_reducible rfl)
        refine wpAnyH_take (i := 15) (v := ?_) rfl (by kernel_rfl) (by kernel_rfl) (by kernel_rfl) (fun _ _ _ h => h) (Or.inl ⟨by kernel_rfl, fun W hW => ?_⟩) hS ?_
        rotate_left
        · obtain ⟨f0, f1, f2, f3, f4, f5, f6, f7, f8, f9, f10, f11⟩ := HF.out W hW
          first | (go_simp; done) | (go_simp; with_reducible rfl)
        refine wpAnyH_take (i := 16) (v := ?_) rfl (by kernel_rfl) (by kernel_rfl) (by kernel_rfl) (fun _ _ _ h => h) (Yields.yieldsIf (Or.inl ⟨by kernel_rfl, ?_⟩)) hS ?_
        rotate_left
        · first | (intro w; go_simp; done) | (intro w; go_simp; with_reducible rfl)
        refine wpAnyH_take (i := 17) (v := ?_) rfl (by kernel_rfl) (by kernel_rfl) (by kernel_rfl) (fun _ _ _ h => h) (Or.inl ⟨by kernel_rfl, fun W hW => ?_⟩) hS ?_
        rotate_left
        · obtain ⟨f0, f1, f2, f3, f4, f5, f6, f7, f8, f9, f10, f11⟩ := HF.out W hW
          first | (go_simp; done) | (go_simp; with_reducible rfl)
        refine wpAnyH_take (i := 18) (v := ?_) rfl (by kernel_rfl) (by kernel_rfl) (by kernel_rfl) (fun _ _ _ h => h) (Yields.yieldsIf (Or.inl ⟨by kernel_rfl, ?_⟩)) hS ?_
        rotate_left
        · first | (intro w; go_simp; done) | (intro w; go_simp; with_reducible rfl)
        refine wpAnyH_take (i := 19) (v := ?_) rfl (by kernel_rfl) (by kernel_rfl) (by kernel_rfl) (fun _ _ _ h => h) (Or.inl ⟨by kernel_rfl, fun W hW => ?_⟩) hS ?_
        rotate_left
        · obtain ⟨f0, f1, f2, f3, f4, f5, f6, f7, f8, f9, f10, f11⟩ := HF.out W hW
          first | (go_simp; done) | (go_simp; with_reducible rfl)
        refine wpAnyH_take (i := 20) (v := ?_) rfl (by kernel_rfl) (by kernel_rfl) (by kernel_rfl) (fun _ _ _ h => h) (Yields.yieldsIf (Or.inl ⟨by kernel_rfl, ?_⟩)) hS ?_
        rotate_left
        · first | (intro w; go_simp; done) | (intro w; go_simp; with_reducible rfl)
        refine wpAnyH_take (i := 21) (v := ?_) rfl (by kernel_rfl) (by kernel_rfl) (by kernel_rfl) (fun _ _ _ h => h) (Yields.yieldsIf (Or.inl ⟨by kernel_rfl, ?_⟩)) hS ?_
        rotate_left
        · first | (intro w; go_simp; done) | (intro w; go_simp; with_reducible rfl)
        refine wpAnyH_ready (rs := [22]) (by kernel_rfl) (by simp) ?_
        refine AllReadyH.cons rfl (fun K hK => ?_) AllReadyH.nil
        go_simp
        go_wp2_with (go_at_call 74; refine (HC2.out _ hS.bel).mono ?_; rintro e w6 ⟨rfl, hb6⟩)
        have hS3 := hS.next hb6
        clear hb6 hS HC2
        refine hK.out _ _ hS3 (fun hS => ?_)
        clear hK K hS3
        refine wpAnyH_take (i := 23) (v := ?_) rfl (by kernel_rfl) (by kernel_rfl) (by kernel_rfl) (fun _ _ _ h => h) (Yields.yieldsIf (Or.inl ⟨by kernel_rfl, ?_⟩)) hS ?_
        rotate_left
        · first | (intro w; go_simp; done) | (intro w; go_simp; with_reducible rfl)
        refine wpAnyH_take (i := 24) (v := ?_) rfl (by kernel_rfl) (by kernel_rfl) (by kernel_rfl) (fun _ _ _ h => h) (Yields.yieldsIf (Or.inl ⟨by kernel_rfl, ?_⟩)) hS ?_
        rotate_left
        · first | (intro w; go_simp; done) | (intro w; go_simp; with_reducible rfl)
        refine wpAnyH_done (by kernel_rfl) ?_ _
        go_wp2
        go_ret
        exact ⟨ret_bool (by rw [HR.out]; rfl), hS.bel⟩
      | false =>
        refine wpAnyH_take (i := 0) (v := ?_) rfl (by kernel_rfl) (by kernel_rfl) (by kernel_rfl) (fun _ _ _ h => h) (Yields.yieldsIf (Or.inl ⟨by kernel_rfl, ?_⟩)) hS ?_
        rotate_left
        · first | (intro w; go_simp; done) | (intro w; go_simp; with_reducible rfl)
        refine wpAnyH_take (i := 1) (v := ?_) rfl (by kernel_rfl) (by kernel_rfl) (by kernel_rfl) (fun _ _ _ h => h) (Or.inl ⟨by kernel_rfl, fun W hW => ?_⟩) hS ?_
        rotate_left
        · obtain ⟨f0, f1, f2, f3, f4, f5, f6, f7, f8, f9, f10, f11⟩ := HF.out W hW
          first | (go_simp; done) | (go_simp; with_reducible rfl)
        refine wpAnyH_take (i := 2) (v := ?_) rfl (by kernel_rfl) (by kernel_rfl) (by kernel_rfl) (fun _ _ _ h => h) (Yields.yieldsIf (Or.inl ⟨by kernel_rfl, ?_⟩)) hS ?_
        rotate_left
        · first | (intro w; go_simp; done) | (intro w; go_simp; with_reducible rfl)
        refine wpAnyH_take (i := 3) (v := ?_) rfl (by kernel_rfl) (by kernel_rfl) (by kernel_rfl) (fun _ _ _ h => h) (Or.inl ⟨by kernel_rfl, fun W hW => ?_⟩) hS ?_
        rotate_left
        · obtain ⟨f0, f1, f2, f3, f4, f5, f6, f7, f8, f9, f10, f11⟩ := HF.out W hW
          first | (go_simp; done) | (go_simp; with_reducible rfl)
        refine wpAnyH_take (i := 4) (v := ?_) rfl (by kernel_rfl) (by kernel_rfl) (by kernel_rfl) (fun _ _ _ h => h) (Yields.yieldsIf (Or.inl ⟨by kernel_rfl, ?_⟩)) hS ?_
        rotate_left
        · first | (intro w; go_simp; done) | (intro w; go_simp; with_reducible rfl)
        refine wpAnyH_take (i := 5) (v := ?_) rfl (by kernel_rfl) (by kernel_rfl) (by kernel_rfl) (fun _ _ _ h => h) (Or.inl ⟨by kernel_rfl, fun W hW => ?_⟩) hS ?_
        rotate_left
        · obtain ⟨f0, f1, f2, f3, f4, f5, f6, f7, f8, f9, f10, f11⟩ := HF.out W hW
          first | (go_simp; done) | (go_simp; with_reducible rfl)
        refine wpAnyH_take (i := 6) (v := ?_) rfl (by kernel_rfl) (by kernel_rfl) (by kernel_rfl) (fun _ _ _ h => h) (Yields.yieldsIf (Or.inl ⟨by kernel_rfl, ?_⟩)) hS ?_
        rotate_left
        · first | (intro w; go_simp; done) | (intro w; go_simp; with_reducible rfl)
        refine wpAnyH_take (i := 7) (v := ?_) rfl (by kernel_rfl) (by kernel_rfl) (by kernel_rfl) (fun _ _ _ h => h) (Or.inl ⟨by kernel_rfl, fun W hW => ?_⟩) hS ?_
        rotate_left
        · obtain ⟨f0, f1, f2, f3, f4, f5, f6, f7, f8, f9, f10, f11⟩ := HF.out W hW
          first | (go_simp; done) | (go_simp; with_reducible rfl)
        refine wpAnyH_take (i := 8) (v := ?_) rfl (by kernel_rfl) (by kernel_rfl) (by kernel_rfl) (fun _ _ _ h => h) (Yields.yieldsIf (Or.inl ⟨by kernel_rfl, ?_⟩)) hS ?_
        rotate_left
        · first | (intro w; go_simp; done) | (intro w; go_simp; with_reducible rfl)
        refine wpAnyH_take (i := 9) (v := ?_) rfl (by kernel_rfl) (by kernel_rfl) (by kernel_rfl) (fun _ _ _ h => h) (Yields.yieldsIf (Or.inl ⟨by kernel_rfl, ?_⟩)) hS ?_
        rotate_left
        · first | (intro w; go_simp; done) | (intro w; go_simp; with_reducible rfl)
        refine wpAnyH_ready (rs := [10]) (by kernel_rfl) (by simp) ?_
        refine AllReadyH.cons rfl (fun K hK => ?_) AllReadyH.nil
        go_simp
        go_wp2_with (go_at_call 74; refine (HC1.out _ hS.bel).mono ?_; rintro e w5 ⟨rfl, hb5⟩)
        have hS3 := hS.next hb5
        clear hb5 hS HC1
        refine hK.out _ _ hS3 (fun hS => ?_)
        clear hK K hS3
        refine wpAnyH_take (i := 11) (v := ?_) rfl (by kernel_rfl) (by kernel_rfl) (by kernel_rfl) (fun _ _ _ h => h) (Yields.yieldsIf (Or.inl ⟨by kernel_rfl, ?_⟩)) hS ?_
        rotate_left
        · first | (intro w; go_simp; done) | (intro w; go_simp; with_reducible rfl)
        refine wpAnyH_take (i := 12) (v := undef) rfl (by kernel_rfl) (by kernel_rfl) (by kernel_rfl) (fun _ _ _ h => h) (Or.inr ⟨by kernel_rfl, rfl⟩) hS ?_
        refine wpAnyH_take (i := 13) (v := undef) rfl (by kernel_rfl) (by kernel_rfl) (by kernel_rfl) (fun _ _ _ h => h) (Or.inr ⟨by kernel_rfl, rfl⟩) hS ?_
        refine wpAnyH_take (i := 14) (v := undef) rfl (by kernel_rfl) (by kernel_rfl) (by kernel_rfl) (fun _ _ _ h => h) (Or.inr ⟨by kernel_rfl, rfl⟩) hS ?_
        refine wpAnyH_take (i := 15) (v := undef) rfl (by kernel_rfl) (by kernel_rfl) (by kernel_rfl) (fun _ _ _ h => h) (Or.inr ⟨by kernel_rfl, rfl⟩) hS ?_
        refine wpAnyH_take (i := 16) (v := undef) rfl (by kernel_rfl) (by kernel_rfl) (by kernel_rfl) (fun _ _ _ h => h) (Or.inr ⟨by kernel_rfl, rfl⟩) hS ?_
        refine wpAnyH_take (i := 17) (v := undef) rfl (by kernel_rfl) (by kernel_rfl) (by kernel_rfl) (fun _ _ _ h => h) (Or.inr ⟨by kernel_rfl, rfl⟩) hS ?_
        refine wpAnyH_take (i := 18) (v := undef) rfl (by kernel_rfl) (by kernel_rfl) (by kernel_rfl) (fun _ _ _ h => h) (Or.inr ⟨by kernel_rfl, rfl⟩) hS ?_
        refine wpAnyH_take (i := 19) (v := undef) rfl (by kernel_rfl) (by kernel_rfl) (by kernel_rfl) (fun _ _ _ h => h) (Or.inr ⟨by kernel_rfl, rfl⟩) hS ?_
        refine wpAnyH_take (i := 20) (v := undef) rfl (by kernel_rfl) (by kernel_rfl) (by kernel_rfl) (fun _ _ _ h => h) (Or.inr ⟨by kernel_rfl, rfl⟩) hS ?_
        refine wpAnyH_take (i := 21) (v := undef) rfl (by kernel_rfl) (by kernel_rfl) (by kernel_rfl) (fun _ _ _ h => h) (Or.inr ⟨by kernel_rfl, rfl⟩) hS ?_
        refine wpAnyH_take (i := 22) (v := undef) rfl (by kernel_rfl) (by kernel_rfl) (by kernel_rfl) (fun _ _ _ h => h) (Or.inr ⟨by kernel_rfl, rfl⟩) hS ?_
        go_simp
        refine wpAnyH_take (i := 23) (v := ?_) rfl (by kernel_rfl) (by kernel_rfl) (by kernel_rfl) (fun _ _ _ h => h) (Yields.yieldsIf (Or.inl ⟨by kernel_rfl, ?_⟩)) hS ?_
        rotate_left
        · first | (intro w; go_simp; done) | (intro w; go_simp; with_reducible rfl)
        refine wpAnyH_take (i := 24) (v := ?_) rfl (by kernel_rfl) (by kernel_rfl) (by kernel_rfl) (fun _ _ _ h => h) (Yields.yieldsIf (Or.inl ⟨by kernel_rfl, ?_⟩)) hS ?_
        rotate_left
        · first | (intro w; go_simp; done) | (intro w; go_simp; with_reducible rfl)
        go_simp
        refine wpAnyH_done (by kernel_rfl) ?_ _
        go_wp2
        go_ret
        exact ⟨ret_bool (by rw [HR.out]; rfl), hS.bel⟩
end Go.Proofs.YtoaglkjpjolacaaGreatDoor.E
namespace Go.Proofs.YtoaglkjpjolacaaGreatDoor.E
open Go.RowKit
def normR : Option Tr → Tr × Int
  | some t => (t.norm, 0)
  | none => (.leaf 0, 2)
def endsR : Option Tr → Value
  | some t => .tuple #[.int .i64 (low t), .int .i64 (high t), .int .i64 0]
  | none => .tuple #[.int .i64 0, .int .i64 0, .int .i64 2]
def leqO : Option Tr → Option Tr → Bool
  | some a, some b => leqT a b 0 0
  | _, _ => false
def sameO (a b : Option Tr) : Bool := leqO a b && leqO b a
set_option maxRecDepth 100000 in
set_option maxHeartbeats 1600000 in
theorem norm_arg {w : World} {T : Option Tr} {v : Value} (h : Arg w T v) : Calls Tryz.prog 36 #[v] w (Ans (normR T) w) := by
  obtain ⟨o, A, n, c, rfl⟩ := h.form
  have HA := Lib.hid h
  have HX := Lib.hid (((XS.begin w).boxed (.int .i64 o) (.slice A n c) 27).fresh (.int .i64 0) (.slice none 0 0) 27)
  simp only [List.nil_append, List.cons_append, World.size_alloc] at HX
  have hc1 := right_arg (h.up HX.out.bel)
  unfold tv at *
  clear h
  cases T with
  | none =>
    go_enter Tryz.func36, Tryz.ntmps36
    go_wp2_with fail
    refine hc1.mono ?_
    rintro e w1 ⟨rfl, hb1⟩
    have HX1 := Lib.hid (HX.out.next hb1)
    clear hb1 hc1 HX
    obtain ⟨u0, u1, ⟨c0, c1'⟩, f0, f1⟩ := HX1.out.facts (w.heap.size + 1) (by simp)
    have HFIN : Hid (∀ u1 u2, InP (fun _ => False) ((w1.setCell ⟨w.heap.size + 1, 0, none⟩ u1).setCell ⟨w.heap.size + 1, 1, none⟩ u2) (.leaf 0) (tv 0 none 0 0) ∧ Below w.heap.size w ((w1.setCell ⟨w.heap.size + 1, 0, none⟩ u1).setCell ⟨w.heap.size + 1, 1, none⟩ u2)) := fun u1 u2 => HX1.out.fin (P := fun _ => False) (t := .leaf 0) (x := tv 0 none 0 0) _ (by simp) ⟨none, 0, rfl⟩ _ _
    clear HX1
    go_wp2
    refine bodyPost_ret (v := .tuple #[tv 0 none 0 0, .int .i64 2]) (by simp [results, Tryz.f36, go_sem, tv, c0, c1']) rfl ?_
    exact ⟨_, rfl, (HFIN.out _ _).1.more fun _ h => h.elim, (HFIN.out _ _).2⟩
  | some t =>
    have hok := HA.out.inT.2
    go_enter Tryz.func36, Tryz.ntmps36
    go_wp2_with fail
    refine hc1.mono ?_
    rintro e w1 ⟨rfl, hb1⟩
    have HX1 := Lib.hid (HX.out.next hb1)
    clear hb1 hc1 HX
    have f := HX1.out.at0
    simp only [List.mem_cons, List.not_mem_nil, or_false, forall_eq_or_imp, forall_eq] at f
    obtain ⟨p0, p1⟩ := f
    have hc2 := norm_any t 4611686018427387904 _ _ w1 (HA.out.up HX1.out.bel).inT.1 ((okT_iff t).1 hok).2.1 (by omega)
    clear hok
    go_wp2_with fail
    refine hc2.mono ?_
    rintro e w3 ⟨v3, rfl, ht3, hb3⟩
    obtain ⟨A3, n3, c3, rfl⟩ := ht3.form
    have HX3 := Lib.hid (HX1.out.next hb3)
    have HT3 : Hid (InP (New w w3) w3 t.norm (tv t.norm.N A3 n3 c3)) := ht3.more fun b hb => ⟨Nat.le_trans HX1.out.bel.size hb.1, hb.2⟩
    have HNR : Hid (normR (some t) = (t.norm, 0)) := rfl
    obtain ⟨z, hz⟩ : ∃ z, t.norm.N = z := ⟨_, rfl⟩
    rw [hz] at HT3 ⊢
    clear hb3 ht3 hc2 HX1 p0 p1 hz
    obtain ⟨u0, u1, ⟨c0, c1'⟩, f0, f1⟩ := HX3.out.facts (w.heap.size + 1) (by simp)
    have HFIN : Hid (∀ u1 u2, InP (New w w3) ((w3.setCell ⟨w.heap.size + 1, 0, none⟩ u1).setCell ⟨w.heap.size + 1, 1, none⟩ u2) t.norm (tv z A3 n3 c3) ∧ Below w.heap.size w ((w3.setCell ⟨w.heap.size + 1, 0, none⟩ u1).setCell ⟨w.heap.size + 1, 1, none⟩ u2)) := fun u1 u2 => HX3.out.fin (w.heap.size + 1) (by simp) HT3.out _ _
    clear HX3 HT3
    unfold tv
    go_wp2
    refine bodyPost_ret (v := .tuple #[tv z A3 n3 c3, .int .i64 0]) (by simp [results, Tryz.f36, go_sem, tv, c0, c1']) rfl ?_
    rw [HNR.out]
    exact ⟨_, rfl, (HFIN.out _ _).1.more fun b hb => ⟨hb.1, by rw [size_set, size_set]; exact hb.2⟩, (HFIN.out _ _).2⟩

set_option maxRecDepth 100000 in
set_option maxHeartbeats 1600000 in
theorem ends_arg {w : World} {T : Option Tr} {v : Value} (h : Arg w T v) : Calls Tryz.prog 139 #[v] w fun e w' => e = .returned (endsR T) ∧ Below w.heap.size w w' := by
  obtain ⟨o, A, n, c, rfl⟩ := h.form
  have HA := Lib.hid h
  have HX := Lib.hid ((XS.begin w).boxed (.int .i64 o) (.slice A n c) 27)
  simp only [List.nil_append] at HX
  have hc1 := right_arg (h.up HX.out.bel)
  unfold tv at *
  clear h
  cases T with
  | none =>
    go_enter Tryz.func139, Tryz.ntmps139
    go_wp2_with fail
    refine hc1.mono ?_
    rintro e w1 ⟨rfl, hb1⟩
    have HX1 := Lib.hid (HX.out.next hb1)
    clear hb1 hc1 HX
    go_wp2
    refine bodyPost_ret (results_tmp3 rfl _ _ _) rfl ?_
    exact ⟨rfl, HX1.out.bel⟩
  | some t =>
    have hok := HA.out.inT.2
    go_enter Tryz.func139, Tryz.ntmps139
    go_wp2_with fail
    refine hc1.mono ?_
    rintro e w1 ⟨rfl, hb1⟩
    have HX1 := Lib.hid (HX.out.next hb1)
    clear hb1 hc1 HX
    have f := HX1.out.at0
    simp only [List.mem_cons, List.not_mem_nil, or_false, forall_eq_or_imp, forall_eq] at f
    obtain ⟨p0, p1⟩ := f
    have hc2 := ends_any t 0 _ _ w1 (HA.out.up HX1.out.bel).inT.1 (by omega) (by omega) ((okT_iff t).1 hok).2.1
    simp only [Int.zero_add] at hc2
    have HE : Hid (endsR (some t) = .tuple #[.int .i64 (low t), .int .i64 (high t), .int .i64 0]) := rfl
    generalize low t = L at *
    generalize high t = M at *
    clear hok
    go_wp2_with fail
    refine hc2.mono ?_
    rintro e w3 ⟨rfl, hb3⟩
    have HX3 := Lib.hid (HX1.out.next hb3)
    clear hb3 hc2 HX1 p0 p1
    go_wp2
    refine bodyPost_ret (results_tmp3 rfl _ _ _) rfl ?_
    exact ⟨by rw [HE.out]; rfl, HX3.out.bel⟩

set_option maxRecDepth 100000 in
set_option maxHeartbeats 1600000 in
theorem leq_arg {w : World} {S T : Option Tr} {u v : Value} (hu : Arg w S u) (hv : Arg w T v) : Calls Tryz.prog 31 #[u, v] w fun e w' => e = .returned (.bool (leqO S T)) ∧ Below w.heap.size w w' := by
  obtain ⟨o1, A1, n1, c1, rfl⟩ := hu.form
  obtain ⟨o2, A2, n2, c2, rfl⟩ := hv.form
  have HA := Lib.hid hu
  have HB := Lib.hid hv
  have HX := Lib.hid (((XS.begin w).boxed (.int .i64 o1) (.slice A1 n1 c1) 27).boxed (.int .i64 o2) (.slice A2 n2 c2) 27)
  simp only [List.nil_append, List.cons_append, World.size_alloc] at HX
  have hc1 := right_arg (hu.up HX.out.bel)
  unfold tv at *
  clear hu hv
  go_enter Tryz.func31, Tryz.ntmps31
  go_wp2_with fail
  refine hc1.mono ?_
  rintro e w1 ⟨rfl, hb1⟩
  have HX1 := Lib.hid (HX.out.next hb1)
  clear hb1 hc1 HX
  have f := HX1.out.at0
  simp only [List.mem_cons, List.not_mem_nil, or_false, forall_eq_or_imp, forall_eq] at f
  obtain ⟨p0, p1, p2, p3⟩ := f
  cases S with
  | none =>
    go_wp2
    go_ret
    exact ⟨rfl, HX1.out.bel⟩
  | some a =>
    have hc2 := right_arg (HB.out.up HX1.out.bel)
    go_wp2_with fail
    refine hc2.mono ?_
    rintro e w2 ⟨rfl, hb2⟩
    have HX2 := Lib.hid (HX1.out.next hb2)
    clear hb2 hc2 HX1 p0 p1 p2 p3
    have f := HX2.out.at0
    simp only [List.mem_cons, List.not_mem_nil, or_false, forall_eq_or_imp, forall_eq] at f
    obtain ⟨p0, p1, p2, p3⟩ := f
    cases T with
    | none =>
      go_wp2
      go_ret
      exact ⟨rfl, HX2.out.bel⟩
    | some b =>
      have ha := (HA.out.up HX2.out.bel).inT
      have hb := (HB.out.up HX2.out.bel).inT
      have hc3 := leq_any a b 0 0 _ _ _ w2 ha.1 hb.1 (by omega) (by omega) (by omega) (by omega) ((okT_iff a).1 ha.2).2.1 ((okT_iff b).1 hb.2).2.1
      have HL : Hid (leqO (some a) (some b) = leqT a b 0 0) := rfl
      generalize leqT a b 0 0 = r at *
      clear ha hb
      go_wp2_with fail
      refine hc3.mono ?_
      rintro e w3 ⟨rfl, hb3⟩
      have HX3 := Lib.hid (HX2.out.next hb3)
      clear hb3 hc3 HX2 p0 p1 p2 p3
      go_wp2
      go_ret
      exact ⟨ret_bool (by rw [HL.out]), HX3.out.bel⟩

set_option maxRecDepth 100000 in
set_option maxHeartbeats 1600000 in
theorem same_arg {w : World} {S T : Option Tr} {u v : Value} (hu : Arg w S u) (hv : Arg w T v) : Calls Tryz.prog 20 #[u, v] w fun e w' => e = .returned (.bool (sameO S T)) ∧ Below w.heap.size w w' := by
  obtain ⟨o1, A1, n1, c1, rfl⟩ := hu.form
  obtain ⟨o2, A2, n2, c2, rfl⟩ := hv.form
  have HX := Lib.hid (((XS.begin w).boxed (.int .i64 o1) (.slice A1 n1 c1) 27).boxed (.int .i64 o2) (.slice A2 n2 c2) 27)
  simp only [List.nil_append, List.cons_append, World.size_alloc] at HX
  have hc1 := leq_arg (hu.up HX.out.bel) (hv.up HX.out.bel)
  have HC2 : Hid (∀ W, Below w.heap.size w W → Calls Tryz.prog 31 #[tv o2 A2 n2 c2, tv o1 A1 n1 c1] W fun e w' => e = .returned (.bool (leqO T S)) ∧ Below W.heap.size W w') := fun W hW => leq_arg (hv.up hW) (hu.up hW)
  have HS : Hid (sameO S T = (leqO S T && leqO T S)) := rfl
  rw [HS.out]
  unfold tv at *
  clear hu hv HS
  generalize leqO S T = r1 at *
  generalize leqO T S = r2 at *
  go_enter Tryz.func20, Tryz.ntmps20
  go_wp2_with fail
  refine hc1.mono ?_
  rintro e w1 ⟨rfl, hb1⟩
  have HX1 := Lib.hid (HX.out.next hb1)
  clear hb1 hc1 HX
  have f := HX1.out.at0
  simp only [List.mem_cons, List.not_mem_nil, or_false, forall_eq_or_imp, forall_eq] at f
  obtain ⟨p0, p1, p2, p3⟩ := f
  cases r1 with
  | false =>
    go_wp2
    go_ret
    exact ⟨rfl, HX1.out.bel⟩
  | true =>
    have hc2 := HC2.out w1 HX1.out.bel
    go_wp2_with fail
    refine hc2.mono ?_
    rintro e w2 ⟨rfl, hb2⟩
    have HX2 := Lib.hid (HX1.out.next hb2)
    clear hb2 hc2 HX1 p0 p1 p2 p3
    go_wp2
    go_ret
    exact ⟨ret_bool (by simp), HX2.out.bel⟩

end Go.Proofs.YtoaglkjpjolacaaGreatDoor.E
