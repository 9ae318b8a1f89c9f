/-
  The reference's parted.
-/
import Derived.Test.YtoaglkjpjolacaaDoorFIPartB
import Derived.Test.YtoaglkjpjolacaaDoorFIPartC1
import Derived.Test.YtoaglkjpjolacaaDoorFIPartC2
import Derived.Test.YtoaglkjpjolacaaDoorFIPartD1
import Derived.Test.YtoaglkjpjolacaaDoorFIPartD2
import Derived.Test.YtoaglkjpjolacaaDoorFIPartD3
import Derived.Test.YtoaglkjpjolacaaDoorFIPartD4
namespace Go.Proofs.YtoaglkjpjolacaaDoor.I
open Go.RowKit
set_option maxRecDepth 100000 in
set_option maxHeartbeats 12800000 in
theorem parted_any : ∀ (t : Tr) (v : Value) (w : World), InT w w.heap.size t v → Calls Tryd.prog 53 #[v] w (Two (splitT t) w) := by
  intro t
  induction t with
  | leaf b =>
    rintro v w ⟨A, c, rfl⟩
    have HX := Lib.hid ((((XS.begin w).boxed (.bool b) (.slice A 0 c)).fresh (.bool false) (.slice none 0 0)).fresh (.bool false) (.slice none 0 0))
    simp only [List.nil_append, List.cons_append, World.size_alloc] at HX
    unfold tv
    cases b with
    | false =>
      have hXD := HX.out.drew
      clear HX
      go_enter Tryd.func53, Tryd.ntmps53
      go_wp2
      refine wp_region_held_drew (S := fun W => XS w [(w.heap.size, .bool false, .slice A 0 c)] [w.heap.size + 1, w.heap.size + 1 + 1] W) (by kernel_rfl) hXD (fun hS => ?_)
      clear hXD
      generalize (((w.alloc (.cells #[.bool false, .slice A 0 c] 24)).alloc (.cells #[.bool false, .slice none 0 0] 24)).alloc (.cells #[.bool false, .slice none 0 0] 24)).drew = wd at hS ⊢
      refine wpAnyH_take (i := 0) (v := ?_) rfl (by kernel_rfl) (by kernel_rfl) (by kernel_rfl) (fun _ _ _ h => h) (Or.inl ⟨by kernel_rfl, fun W hW => ?_⟩) hS ?_
      rotate_left
      · have f := hW.at0
        simp only [List.mem_cons, List.not_mem_nil, or_false, forall_eq] at f
        obtain ⟨p0, q0, _⟩ := f
        first | (go_simp; done) | (go_simp; with_reducible rfl)
      refine wpAnyH_take (i := 1) (v := ?_) rfl (by kernel_rfl) (by kernel_rfl) (by kernel_rfl) (fun _ _ _ h => h) (Or.inl ⟨by kernel_rfl, fun W hW => ?_⟩) hS ?_
      rotate_left
      · have f := hW.at0
        simp only [List.mem_cons, List.not_mem_nil, or_false, forall_eq] at f
        obtain ⟨p0, q0, _⟩ := f
        first | (go_simp; done) | (go_simp; with_reducible rfl)
      have HFIN := Lib.hid (hS.two (s := .leaf false) (t := .leaf false) (x := tv false A 0 c) (y := tv false A 0 c) ⟨A, c, rfl⟩ ⟨A, c, rfl⟩ (w.heap.size + 1) (w.heap.size + 1 + 1) (by simp) (by simp) (.bool false) (.slice A 0 c) (.bool false) (.slice A 0 c) (by simp <;> omega) (by simp <;> omega))
      have HS1 := Lib.hid ((hS.store (w.heap.size + 1) 0 (.bool false) (by simp) (by simp <;> omega)).store (w.heap.size + 1) 1 (.slice A 0 c) (by simp) (by simp <;> omega))
      have HS2 := Lib.hid ((HS1.out.store (w.heap.size + 1 + 1) 0 (.bool false) (by simp) (by simp <;> omega)).store (w.heap.size + 1 + 1) 1 (.slice A 0 c) (by simp) (by simp <;> omega))
      obtain ⟨y0, y1, ⟨d0, d1⟩, f0, f1⟩ := hS.facts (w.heap.size + 1) (by simp)
      obtain ⟨y2, y3, ⟨d2, d3⟩, f2, f3⟩ := hS.facts (w.heap.size + 1 + 1) (by simp)
      clear hS
      refine wpAnyH_ready (rs := [2]) (by kernel_rfl) (by simp) ?_
      refine AllReadyH.cons rfl (fun K hK => ?_) AllReadyH.nil
      go_simp
      go_wp2
      refine hK.out _ _ HS1.out (fun _ => ?_)
      clear hK K
      refine wpAnyH_ready (rs := [3]) (by kernel_rfl) (by simp) ?_
      refine AllReadyH.cons rfl (fun K hK => ?_) AllReadyH.nil
      go_simp
      go_wp2
      refine hK.out _ _ HS2.out (fun _ => ?_)
      clear hK K HS1 HS2
      refine wpAnyH_done (by kernel_rfl) ?_ _
      go_wp2
      refine bodyPost_ret (v := .tuple #[tv false A 0 c, tv false A 0 c]) (by simp [results, Tryd.f53, go_sem, tv, d0, d1, d2, d3]) rfl ?_
      exact HFIN.out
    | true =>
      go_enter Tryd.func53, Tryd.ntmps53
      go_wp2_with fail
      refine (leaf_any true _).mono ?_
      rintro e w1 ⟨rfl, hb1⟩
      have HX1 := Lib.hid (HX.out.next hb1)
      clear hb1 HX
      unfold tv
      go_wp2_with fail
      refine (leaf_any false _).mono ?_
      rintro e w2 ⟨rfl, hb2⟩
      have HX2 := Lib.hid ((HX1.out.next hb2).next (new_below w2 (.cells #[.bool true, .slice none 0 0, .bool false, .slice none 0 0] 24)))
      have HN1 := Lib.hid (pair_new (W := w2) (x := .leaf true) (y := .leaf false) ⟨none, 0, rfl⟩ ⟨none, 0, rfl⟩)
      clear hb2 HX1
      unfold tv
      go_wp2_with fail
      refine (leaf_any false _).mono ?_
      rintro e w3 ⟨rfl, hb3⟩
      have HX3 := Lib.hid (HX2.out.next hb3)
      have HN2 := Lib.hid (HN1.out.up hb3)
      clear hb3 HX2 HN1
      unfold tv
      go_wp2_with fail
      refine (leaf_any true _).mono ?_
      rintro e w4 ⟨rfl, hb4⟩
      have HX4 := Lib.hid ((HX3.out.next hb4).next (new_below w4 (.cells #[.bool false, .slice none 0 0, .bool true, .slice none 0 0] 24)))
      have HN3 := Lib.hid ((HN2.out.up hb4).up (new_below w4 (.cells #[.bool false, .slice none 0 0, .bool true, .slice none 0 0] 24)))
      have HN4 := Lib.hid (pair_new (W := w4) (x := .leaf false) (y := .leaf true) ⟨none, 0, rfl⟩ ⟨none, 0, rfl⟩)
      clear hb4 HX3 HN2
      unfold tv
      obtain ⟨y0, y1, ⟨d0, d1⟩, f0, f1⟩ := HX4.out.facts (w.heap.size + 1) (by simp)
      obtain ⟨y2, y3, ⟨d2, d3⟩, f2, f3⟩ := HX4.out.facts (w.heap.size + 1 + 1) (by simp)
      have HFIN := Lib.hid (HX4.out.two HN3.out HN4.out (w.heap.size + 1) (w.heap.size + 1 + 1) (by simp) (by simp) (.bool false) (.slice (some ⟨w2.heap.size, 0, none⟩) 2 2) (.bool false) (.slice (some ⟨w4.heap.size, 0, none⟩) 2 2) (by simp) (by simp; omega))
      clear HX4 HN3 HN4
      go_wp2
      refine bodyPost_ret (v := .tuple #[tv false (some ⟨w2.heap.size, 0, none⟩) 2 2, tv false (some ⟨w4.heap.size, 0, none⟩) 2 2]) (by simp [results, Tryd.f53, go_sem, tv, d0, d1, d2, d3]) rfl ?_
      exact HFIN.out
  | node x y ihx ihy =>
    rintro v w ⟨b, off, c, rfl, hb, ⟨o1, A1, n1, c1, e1, e2, e3⟩, ⟨o2, A2, n2, c2, g1, g2, g3⟩⟩
    rcases e3.leafy with ⟨rfl, rfl⟩ | ⟨rfl, rfl, lx, rx, rfl⟩
    · cases o1 with
      | false => exact parted_B y ihy w b off c A1 A2 c1 c2 o2 n2 hb e1 e2 g1 g2 e3 g3
      | true =>
        rcases g3.leafy with ⟨rfl, rfl⟩ | ⟨rfl, rfl, ly, ry, rfl⟩
        · cases o2 with
          | false => exact parted_C1 ihx w b off c A1 A2 c1 c2 hb e1 e2 g1 g2 e3 g3
          | true => exact parted_D1 w b off c A1 A2 c1 c2 hb e1 e2 g1 g2 e3 g3
        · exact parted_D2 ly ry w b off c A1 A2 c1 c2 hb e1 e2 g1 g2 e3 g3
    · rcases g3.leafy with ⟨rfl, rfl⟩ | ⟨rfl, rfl, ly, ry, rfl⟩
      · cases o2 with
        | false => exact parted_C2 lx rx ihx w b off c A1 A2 c1 c2 hb e1 e2 g1 g2 e3 g3
        | true => exact parted_D3 lx rx w b off c A1 A2 c1 c2 hb e1 e2 g1 g2 e3 g3
      · exact parted_D4 lx rx ly ry w b off c A1 A2 c1 c2 hb e1 e2 g1 g2 e3 g3
end Go.Proofs.YtoaglkjpjolacaaDoor.I
namespace Go.Proofs.YtoaglkjpjolacaaDoor.I
open Go.RowKit
set_option maxRecDepth 100000 in
set_option maxHeartbeats 3200000 in
theorem rsplit_arg {w : World} {T : Option Tr} {v : Value} (hv : Arg w T v) : Calls Tryd.prog 26 #[v] w (Ans2 (splitR T) w) := by
  obtain ⟨o, A, n, c, rfl⟩ := hv.form
  have HX := Lib.hid ((((XS.begin w).boxed (.bool o) (.slice A n c)).fresh (.bool false) (.slice none 0 0)).fresh (.bool false) (.slice none 0 0))
  simp only [List.nil_append, List.cons_append, World.size_alloc] at HX
  have HV := Lib.hid hv
  clear hv
  have hr := rnorm_arg (HV.out.up HX.out.bel)
  unfold tv at hr ⊢
  go_enter Tryd.func26, Tryd.ntmps26
  go_wp2_with fail
  refine hr.mono ?_
  rintro e w1 ⟨v1, rfl, h1, hb1⟩
  obtain ⟨o1, A1, n1, c1, rfl⟩ := h1.form
  have hx1 := HX.out.next hb1
  have HX2 := Lib.hid (hx1.boxed (.bool o1) (.slice A1 n1 c1))
  simp only [List.nil_append, List.cons_append] at HX2
  have HSZ : Hid (w.heap.size + 3 ≤ w1.heap.size) := by show _ ≤ _; have := (hx1.box (w.heap.size + 1 + 1) (by simp)).2.1; omega
  have H2 := Lib.hid (h1.up (new_below w1 (.cells #[.bool o1, .slice A1 n1 c1] 24)))
  clear hb1 hr HX hx1 h1
  unfold tv
  cases T with
  | none =>
    rw [show normR none = (.leaf false, 2) from rfl]
    obtain ⟨y0, y1, ⟨d0, d1⟩, f0, f1⟩ := HX2.out.facts (w.heap.size + 1) (by simp)
    obtain ⟨y2, y3, ⟨d2, d3⟩, f2, f3⟩ := HX2.out.facts (w.heap.size + 1 + 1) (by simp)
    have H := Lib.hid (HX2.out.fin2 (zero_in _ _) (zero_in _ _) (w.heap.size + 1) (w.heap.size + 1 + 1) (by simp) (by simp) (.int .i64 2) (.bool false) (.slice none 0 0) (.bool false) (.slice none 0 0) 2 (by have := HSZ.out; simp; omega) (by have := HSZ.out; simp; omega) rfl)
    clear HX2 H2 HSZ
    go_wp2
    refine bodyPost_ret (v := .tuple #[tv false none 0 0, tv false none 0 0, .int .i64 2]) (by simp [results, Tryd.f26, go_sem, tv, d0, d1, d2, d3]) rfl ?_
    exact H.out
  | some t =>
    rw [show normR (some t) = (t.norm, 0) from rfl] at *
    have hc2 := parted_any t.norm _ _ H2.out
    unfold tv at hc2
    clear H2
    go_wp2_with fail
    refine hc2.mono ?_
    rintro e w3 ⟨x, y, rfl, hx3, hy3, hb3⟩
    obtain ⟨o3, A3, n3, c3, rfl⟩ := hx3.form
    obtain ⟨o4, A4, n4, c4, rfl⟩ := hy3.form
    have hx4 := HX2.out.next hb3
    have HX5 := Lib.hid ((hx4.boxed (.bool o3) (.slice A3 n3 c3)).boxed (.bool o4) (.slice A4 n4 c4))
    have hb5 : Below w3.heap.size w3 ((w3.alloc (.cells #[.bool o3, .slice A3 n3 c3] 24)).alloc (.cells #[.bool o4, .slice A4 n4 c4] 24)) := ((Below.refl _ w3).alloc (Nat.le_refl _) _).alloc (by simp) _
    have HT1 := Lib.hid (hx3.up hb5)
    have HT2 := Lib.hid (hy3.up hb5)
    simp only [List.nil_append, List.cons_append, World.size_alloc] at HX5
    have hr := rright_arg (arg_of HT1.out)
    have HSY : Hid (w1.heap.size < w3.heap.size) := by show _ < _; have := hb3.size; simp only [World.size_alloc] at this; omega
    clear hb3 hc2 HX2 hx3 hy3 hx4 hb5
    unfold tv at hr ⊢
    go_wp2_with fail
    refine hr.mono ?_
    rintro e w6 ⟨rfl, hb6⟩
    have HX6 := Lib.hid (HX5.out.next hb6)
    have HU1 := Lib.hid (HT1.out.up hb6)
    have HU2 := Lib.hid (HT2.out.up hb6)
    clear hb6 hr HX5 HT1 HT2
    have f := HX6.out.at0
    simp only [List.mem_cons, List.not_mem_nil, or_false, forall_eq_or_imp, forall_eq] at f
    obtain ⟨⟨p0, q0, _⟩, ⟨p1, q1, _⟩, ⟨p2, q2, _⟩, p3, q3, _⟩ := f
    have hr := rright_arg (arg_of HU2.out)
    unfold tv at hr
    go_wp2_with fail
    refine hr.mono ?_
    rintro e w7 ⟨rfl, hb7⟩
    have HX7 := Lib.hid (HX6.out.next hb7)
    have HV1 := Lib.hid (HU1.out.up hb7)
    have HV2 := Lib.hid (HU2.out.up hb7)
    clear hb7 hr HX6 HU1 HU2 p0 q0 p1 q1 p2 q2 p3 q3
    have HE : Hid (splitR (some t) = if (fit (splitT t.norm).1).isSome = true ∧ (fit (splitT t.norm).2).isSome = true then (splitT t.norm, 0) else ((.leaf false, .leaf false), 41)) := rfl
    obtain ⟨X, hX⟩ : ∃ X, splitT t.norm = X := ⟨_, rfl⟩
    rw [hX] at HE HV1 HV2 ⊢
    clear hX
    have NO : Hid (∀ u1 u2 u3 u4, Ans2 ((.leaf false, .leaf false), 41) w (.returned (.tuple #[tv false none 0 0, tv false none 0 0, .int .i64 41])) ((((w7.setCell ⟨w.heap.size + 1, 0, none⟩ u1).setCell ⟨w.heap.size + 1, 1, none⟩ u2).setCell ⟨w.heap.size + 1 + 1, 0, none⟩ u3).setCell ⟨w.heap.size + 1 + 1, 1, none⟩ u4)) := fun u1 u2 u3 u4 => HX7.out.fin2 (zero_in _ _) (zero_in _ _) (w.heap.size + 1) (w.heap.size + 1 + 1) (by simp) (by simp) (.int .i64 41) u1 u2 u3 u4 41 (by have := HSZ.out; have := HSY.out; simp; omega) (by have := HSZ.out; have := HSY.out; simp; omega) rfl
    obtain ⟨y0, y1, ⟨d0, d1⟩, f0, f1⟩ := HX7.out.facts (w.heap.size + 1) (by simp)
    obtain ⟨y2, y3, ⟨d2, d3⟩, f2, f3⟩ := HX7.out.facts (w.heap.size + 1 + 1) (by simp)
    cases hf1 : (fit X.1).isSome with
    | false =>
      rw [hf1] at HE
      clear HX7 HV1 HV2 hf1 HSZ HSY
      go_wp2
      refine bodyPost_ret (v := .tuple #[tv false none 0 0, tv false none 0 0, .int .i64 41]) (by simp [results, Tryd.f26, go_sem, tv, d0, d1, d2, d3]) rfl ?_
      rw [HE.out, if_neg (by simp)]
      exact NO.out _ _ _ _
    | true =>
      rw [hf1] at HE
      clear hf1
      cases hf2 : (fit X.2).isSome with
      | false =>
        rw [hf2] at HE
        clear HX7 HV1 HV2 hf2 HSZ HSY
        go_wp2
        refine bodyPost_ret (v := .tuple #[tv false none 0 0, tv false none 0 0, .int .i64 41]) (by simp [results, Tryd.f26, go_sem, tv, d0, d1, d2, d3]) rfl ?_
        rw [HE.out, if_neg (by simp)]
        exact NO.out _ _ _ _
      | true =>
        rw [hf2] at HE
        clear hf2 d0 d1 d2 d3 f0 f1 f2 f3 NO
        have hXD := HX7.out.drew
        have HW1 := Lib.hid (HV1.out.up ((Below.refl w7.heap.size w7).drew))
        have HW2 := Lib.hid (HV2.out.up ((Below.refl w7.heap.size w7).drew))
        clear HX7 HV1 HV2
        go_wp2
        refine wp_region_held_drew (S := fun W => XS w [(w.heap.size, .bool o, .slice A n c), (w1.heap.size, .bool o1, .slice A1 n1 c1), (w3.heap.size, .bool o3, .slice A3 n3 c3), (w3.heap.size + 1, .bool o4, .slice A4 n4 c4)] [w.heap.size + 1, w.heap.size + 1 + 1] W) (by kernel_rfl) hXD (fun hS => ?_)
        clear hXD
        generalize w7.drew = wd at hS HW1 HW2 ⊢
        refine wpAnyH_take (i := 0) (v := ?_) rfl (by kernel_rfl) (by kernel_rfl) (by kernel_rfl) (fun _ _ _ h => h) (Or.inl ⟨by kernel_rfl, fun W hW => ?_⟩) hS ?_
        rotate_left
        · have f := hW.at0
          simp only [List.mem_cons, List.not_mem_nil, or_false, forall_eq_or_imp, forall_eq] at f
          obtain ⟨⟨p0, q0, _⟩, ⟨p1, q1, _⟩, ⟨p2, q2, _⟩, p3, q3, _⟩ := f
          first | (go_simp; done) | (go_simp; with_reducible rfl)
        refine wpAnyH_take (i := 1) (v := ?_) rfl (by kernel_rfl) (by kernel_rfl) (by kernel_rfl) (fun _ _ _ h => h) (Or.inl ⟨by kernel_rfl, fun W hW => ?_⟩) hS ?_
        rotate_left
        · have f := hW.at0
          simp only [List.mem_cons, List.not_mem_nil, or_false, forall_eq_or_imp, forall_eq] at f
          obtain ⟨⟨p0, q0, _⟩, ⟨p1, q1, _⟩, ⟨p2, q2, _⟩, p3, q3, _⟩ := f
          first | (go_simp; done) | (go_simp; with_reducible rfl)
        have HFIN := Lib.hid (hS.fin2 HW1.out HW2.out (w.heap.size + 1) (w.heap.size + 1 + 1) (by simp) (by simp) (.int .i64 0) (.bool o3) (.slice A3 n3 c3) (.bool o4) (.slice A4 n4 c4) 0 (by have := HSZ.out; have := HSY.out; simp; omega) (by have := HSZ.out; have := HSY.out; simp; omega) rfl)
        have HS1 := Lib.hid ((hS.store (w.heap.size + 1) 0 (.bool o3) (by simp) (by have := HSZ.out; have := HSY.out; simp; omega)).store (w.heap.size + 1) 1 (.slice A3 n3 c3) (by simp) (by have := HSZ.out; have := HSY.out; simp; omega))
        have HS2 := Lib.hid ((HS1.out.store (w.heap.size + 1 + 1) 0 (.bool o4) (by simp) (by have := HSZ.out; have := HSY.out; simp; omega)).store (w.heap.size + 1 + 1) 1 (.slice A4 n4 c4) (by simp) (by have := HSZ.out; have := HSY.out; simp; omega))
        obtain ⟨y0, y1, ⟨d0, d1⟩, f0, f1⟩ := hS.facts (w.heap.size + 1) (by simp)
        obtain ⟨y2, y3, ⟨d2, d3⟩, f2, f3⟩ := hS.facts (w.heap.size + 1 + 1) (by simp)
        clear hS HW1 HW2
        refine wpAnyH_ready (rs := [2]) (by kernel_rfl) (by simp) ?_
        refine AllReadyH.cons rfl (fun K hK => ?_) AllReadyH.nil
        go_simp
        go_wp2
        refine hK.out _ _ HS1.out (fun _ => ?_)
        clear hK K
        refine wpAnyH_ready (rs := [3]) (by kernel_rfl) (by simp) ?_
        refine AllReadyH.cons rfl (fun K hK => ?_) AllReadyH.nil
        go_simp
        go_wp2
        refine hK.out _ _ HS2.out (fun hS => ?_)
        clear hK K HS1 HS2
        refine wpAnyH_take (i := 4) (v := ?_) rfl (by kernel_rfl) (by kernel_rfl) (by kernel_rfl) (fun _ _ _ h => h) (Yields.yieldsIf (Or.inl ⟨by kernel_rfl, ?_⟩)) hS ?_
        rotate_left
        · first | (intro w; go_simp; done) | (intro w; go_simp; with_reducible rfl)
        refine wpAnyH_done (by kernel_rfl) ?_ _
        clear hS
        go_wp2
        refine bodyPost_ret (v := .tuple #[tv o3 A3 n3 c3, tv o4 A4 n4 c4, .int .i64 0]) (by simp [results, Tryd.f26, go_sem, tv, d0, d1, d2, d3]) rfl ?_
        rw [HE.out, if_pos ⟨trivial, trivial⟩]
        exact HFIN.out
end Go.Proofs.YtoaglkjpjolacaaDoor.I
