/-
  The reference's Split.
-/
import Derived.Test.YtkpefelakhbkhaaIParted
namespace Go.Proofs.Ytkpefelakhbkhaa.I
open Go.RowKit

set_option maxRecDepth 100000 in
set_option maxHeartbeats 3200000 in
theorem rsplit_arg {w : World} {T : Option Tr} {v : Value} (hv : Arg w T v) : Calls Try.prog 16 #[v] w (Ans2 (splitR T) w) := by
  obtain ⟨o, A, n, c, rfl⟩ := hv.form
  have HX := Lib.hid ((((XS.begin w).boxed (.bool o) (.slice A n c)).fresh (.bool false) (.slice none 0 0)).fresh (.bool false) (.slice none 0 0))
  simp only [List.nil_append, List.cons_append, World.size_alloc] at HX
  have HV := Lib.hid hv
  clear hv
  have hr := rnorm_arg (HV.out.up HX.out.bel)
  unfold tv at hr ⊢
  go_enter Try.func16, Try.ntmps16
  go_wp2_with fail
  refine hr.mono ?_
  rintro e w1 ⟨v1, rfl, h1, hb1⟩
  obtain ⟨o1, A1, n1, c1, rfl⟩ := h1.form
  have hx1 := HX.out.next hb1
  have HX2 := Lib.hid (hx1.boxed (.bool o1) (.slice A1 n1 c1))
  simp only [List.nil_append, List.cons_append] at HX2
  have HSZ : Hid (w.heap.size + 3 ≤ w1.heap.size) := by show _ ≤ _; have := (hx1.box (w.heap.size + 1 + 1) (by simp)).2.1; omega
  have H2 := Lib.hid (h1.up (new_below w1 (.cells #[.bool o1, .slice A1 n1 c1] 24)))
  clear hb1 hr HX hx1 h1
  unfold tv
  cases T with
  | none =>
    rw [show normR none = (.leaf false, 2) from rfl]
    obtain ⟨y0, y1, ⟨d0, d1⟩, f0, f1⟩ := HX2.out.facts (w.heap.size + 1) (by simp)
    obtain ⟨y2, y3, ⟨d2, d3⟩, f2, f3⟩ := HX2.out.facts (w.heap.size + 1 + 1) (by simp)
    have H := Lib.hid (HX2.out.fin2 (zero_in _ _) (zero_in _ _) (w.heap.size + 1) (w.heap.size + 1 + 1) (by simp) (by simp) (.int .i64 2) (.bool false) (.slice none 0 0) (.bool false) (.slice none 0 0) 2 (by have := HSZ.out; simp; omega) (by have := HSZ.out; simp; omega) rfl)
    clear HX2 H2 HSZ
    go_wp2
    refine bodyPost_ret (v := .tuple #[tv false none 0 0, tv false none 0 0, .int .i64 2]) (by simp [results, Try.f16, go_sem, tv, d0, d1, d2, d3]) rfl ?_
    exact H.out
  | some t =>
    rw [show normR (some t) = (t.norm, 0) from rfl] at *
    have hc2 := parted_any t.norm _ _ H2.out
    unfold tv at hc2
    clear H2
    go_wp2_with fail
    refine hc2.mono ?_
    rintro e w3 ⟨x, y, rfl, hx3, hy3, hb3⟩
    obtain ⟨o3, A3, n3, c3, rfl⟩ := hx3.form
    obtain ⟨o4, A4, n4, c4, rfl⟩ := hy3.form
    have hx4 := HX2.out.next hb3
    have HX5 := Lib.hid ((hx4.boxed (.bool o3) (.slice A3 n3 c3)).boxed (.bool o4) (.slice A4 n4 c4))
    have hb5 : Below w3.heap.size w3 ((w3.alloc (.cells #[.bool o3, .slice A3 n3 c3] 24)).alloc (.cells #[.bool o4, .slice A4 n4 c4] 24)) := ((Below.refl _ w3).alloc (Nat.le_refl _) _).alloc (by simp) _
    have HT1 := Lib.hid (hx3.up hb5)
    have HT2 := Lib.hid (hy3.up hb5)
    simp only [List.nil_append, List.cons_append, World.size_alloc] at HX5
    have hr := rright_arg (arg_of HT1.out)
    have HSY : Hid (w1.heap.size < w3.heap.size) := by show _ < _; have := hb3.size; simp only [World.size_alloc] at this; omega
    clear hb3 hc2 HX2 hx3 hy3 hx4 hb5
    unfold tv at hr ⊢
    go_wp2_with fail
    refine hr.mono ?_
    rintro e w6 ⟨rfl, hb6⟩
    have HX6 := Lib.hid (HX5.out.next hb6)
    have HU1 := Lib.hid (HT1.out.up hb6)
    have HU2 := Lib.hid (HT2.out.up hb6)
    clear hb6 hr HX5 HT1 HT2
    have f := HX6.out.at0
    simp only [List.mem_cons, List.not_mem_nil, or_false, forall_eq_or_imp, forall_eq] at f
    obtain ⟨⟨p0, q0, _⟩, ⟨p1, q1, _⟩, ⟨p2, q2, _⟩, p3, q3, _⟩ := f
    have hr := rright_arg (arg_of HU2.out)
    unfold tv at hr
    go_wp2_with fail
    refine hr.mono ?_
    rintro e w7 ⟨rfl, hb7⟩
    have HX7 := Lib.hid (HX6.out.next hb7)
    have HV1 := Lib.hid (HU1.out.up hb7)
    have HV2 := Lib.hid (HU2.out.up hb7)
    clear hb7 hr HX6 HU1 HU2 p0 q0 p1 q1 p2 q2 p3 q3
    have HE : Hid (splitR (some t) = if (fit (splitT t.norm).1).isSome = true ∧ (fit (splitT t.norm).2).isSome = true then (splitT t.norm, 0) else ((.leaf false, .leaf false), 41)) := rfl
    obtain ⟨X, hX⟩ : ∃ X, splitT t.norm = X := ⟨_, rfl⟩
    rw [hX] at HE HV1 HV2 ⊢
    clear hX
    have NO : Hid (∀ u1 u2 u3 u4, Ans2 ((.leaf false, .leaf false), 41) w (.returned (.tuple #[tv false none 0 0, tv false none 0 0, .int .i64 41])) ((((w7.setCell ⟨w.heap.size + 1, 0, none⟩ u1).setCell ⟨w.heap.size + 1, 1, none⟩ u2).setCell ⟨w.heap.size + 1 + 1, 0, none⟩ u3).setCell ⟨w.heap.size + 1 + 1, 1, none⟩ u4)) := fun u1 u2 u3 u4 => HX7.out.fin2 (zero_in _ _) (zero_in _ _) (w.heap.size + 1) (w.heap.size + 1 + 1) (by simp) (by simp) (.int .i64 41) u1 u2 u3 u4 41 (by have := HSZ.out; have := HSY.out; simp; omega) (by have := HSZ.out; have := HSY.out; simp; omega) rfl
    obtain ⟨y0, y1, ⟨d0, d1⟩, f0, f1⟩ := HX7.out.facts (w.heap.size + 1) (by simp)
    obtain ⟨y2, y3, ⟨d2, d3⟩, f2, f3⟩ := HX7.out.facts (w.heap.size + 1 + 1) (by simp)
    cases hf1 : (fit X.1).isSome with
    | false =>
      rw [hf1] at HE
      clear HX7 HV1 HV2 hf1 HSZ HSY
      go_wp2
      refine bodyPost_ret (v := .tuple #[tv false none 0 0, tv false none 0 0, .int .i64 41]) (by simp [results, Try.f16, go_sem, tv, d0, d1, d2, d3]) rfl ?_
      rw [HE.out, if_neg (by simp)]
      exact NO.out _ _ _ _
    | true =>
      rw [hf1] at HE
      clear hf1
      cases hf2 : (fit X.2).isSome with
      | false =>
        rw [hf2] at HE
        clear HX7 HV1 HV2 hf2 HSZ HSY
        go_wp2
        refine bodyPost_ret (v := .tuple #[tv false none 0 0, tv false none 0 0, .int .i64 41]) (by simp [results, Try.f16, go_sem, tv, d0, d1, d2, d3]) rfl ?_
        rw [HE.out, if_neg (by simp)]
        exact NO.out _ _ _ _
      | true =>
        rw [hf2] at HE
        clear hf2 d0 d1 d2 d3 f0 f1 f2 f3 NO
        have hXD := HX7.out.drew
        have HW1 := Lib.hid (HV1.out.up ((Below.refl w7.heap.size w7).drew))
        have HW2 := Lib.hid (HV2.out.up ((Below.refl w7.heap.size w7).drew))
        clear HX7 HV1 HV2
        go_wp2
        refine wp_region_held_drew (S := fun W => XS w [(w.heap.size, .bool o, .slice A n c), (w1.heap.size, .bool o1, .slice A1 n1 c1), (w3.heap.size, .bool o3, .slice A3 n3 c3), (w3.heap.size + 1, .bool o4, .slice A4 n4 c4)] [w.heap.size + 1, w.heap.size + 1 + 1] W) (by kernel_rfl) hXD (fun hS => ?_)
        clear hXD
        generalize w7.drew = wd at hS HW1 HW2 ⊢
        refine wpAnyH_take (i := 0) (v := ?_) rfl (by kernel_rfl) (by kernel_rfl) (by kernel_rfl) (fun _ _ _ h => h) (Or.inl ⟨by kernel_rfl, fun W hW => ?_⟩) hS ?_
        rotate_left
        · have f := hW.at0
          simp only [List.mem_cons, List.not_mem_nil, or_false, forall_eq_or_imp, forall_eq] at f
          obtain ⟨⟨p0, q0, _⟩, ⟨p1, q1, _⟩, ⟨p2, q2, _⟩, p3, q3, _⟩ := f
          first | (go_simp; done) | (go_simp; with_reducible rfl)
        refine wpAnyH_take (i := 1) (v := ?_) rfl (by kernel_rfl) (by kernel_rfl) (by kernel_rfl) (fun _ _ _ h => h) (Or.inl ⟨by kernel_rfl, fun W hW => ?_⟩) hS ?_
        rotate_left
        · have f := hW.at0
          simp only [List.mem_cons, List.not_mem_nil, or_false, forall_eq_or_imp, forall_eq] at f
          obtain ⟨⟨p0, q0, _⟩, ⟨p1, q1, _⟩, ⟨p2, q2, _⟩, p3, q3, _⟩ := f
          first | (go_simp; done) | (go_simp; with_reducible rfl)
        have HFIN := Lib.hid (hS.fin2 HW1.out HW2.out (w.heap.size + 1) (w.heap.size + 1 + 1) (by simp) (by simp) (.int .i64 0) (.bool o3) (.slice A3 n3 c3) (.bool o4) (.slice A4 n4 c4) 0 (by have := HSZ.out; have := HSY.out; simp; omega) (by have := HSZ.out; have := HSY.out; simp; omega) rfl)
        have HS1 := Lib.hid ((hS.store (w.heap.size + 1) 0 (.bool o3) (by simp) (by have := HSZ.out; have := HSY.out; simp; omega)).store (w.heap.size + 1) 1 (.slice A3 n3 c3) (by simp) (by have := HSZ.out; have := HSY.out; simp; omega))
        have HS2 := Lib.hid ((HS1.out.store (w.heap.size + 1 + 1) 0 (.bool o4) (by simp) (by have := HSZ.out; have := HSY.out; simp; omega)).store (w.heap.size + 1 + 1) 1 (.slice A4 n4 c4) (by simp) (by have := HSZ.out; have := HSY.out; simp; omega))
        obtain ⟨y0, y1, ⟨d0, d1⟩, f0, f1⟩ := hS.facts (w.heap.size + 1) (by simp)
        obtain ⟨y2, y3, ⟨d2, d3⟩, f2, f3⟩ := hS.facts (w.heap.size + 1 + 1) (by simp)
        clear hS HW1 HW2
        refine wpAnyH_ready (rs := [2]) (by kernel_rfl) (by simp) ?_
        refine AllReadyH.cons rfl (fun K hK => ?_) AllReadyH.nil
        go_simp
        go_wp2
        refine hK.out _ _ HS1.out (fun _ => ?_)
        clear hK K
        refine wpAnyH_ready (rs := [3]) (by kernel_rfl) (by simp) ?_
        refine AllReadyH.cons rfl (fun K hK => ?_) AllReadyH.nil
        go_simp
        go_wp2
        refine hK.out _ _ HS2.out (fun hS => ?_)
        clear hK K HS1 HS2
        refine wpAnyH_take (i := 4) (v := ?_) rfl (by kernel_rfl) (by kernel_rfl) (by kernel_rfl) (fun _ _ _ h => h) (Yields.yieldsIf (Or.inl ⟨by kernel_rfl, ?_⟩)) hS ?_
        rotate_left
        · first | (intro w; go_simp; done) | (intro w; go_simp; with_reducible rfl)
        refine wpAnyH_done (by kernel_rfl) ?_ _
        clear hS
        go_wp2
        refine bodyPost_ret (v := .tuple #[tv o3 A3 n3 c3, tv o4 A4 n4 c4, .int .i64 0]) (by simp [results, Try.f16, go_sem, tv, d0, d1, d2, d3]) rfl ?_
        rw [HE.out, if_pos ⟨trivial, trivial⟩]
        exact HFIN.out
end Go.Proofs.Ytkpefelakhbkhaa.I
