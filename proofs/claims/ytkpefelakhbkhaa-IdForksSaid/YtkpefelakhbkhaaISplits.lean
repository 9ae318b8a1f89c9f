/-
  IdSplits: the walk of the law.
-/
import Derived.Test.YtkpefelakhbkhaaIShown
namespace Go.Proofs.Ytkpefelakhbkhaa.I
open Go.RowKit

theorem none_arg (w : World) : Arg w (some (.leaf false)) (tv false none 0 0) := arg_of (t := .leaf false) (zero_in _ _)
theorem fit_isSome {t : Tr} (h : (fit t).isSome = true) : fit t = some t := by
  unfold fit at *
  split at h
  · rename_i h1; rw [if_pos h1]
  · cases h
theorem split_law {t : Tr} (ht : fit t = some t) (h1 : (fit (splitT t.norm).1).isSome = true) (h2 : (fit (splitT t.norm).2).isSome = true) :
    sumR (fit (splitT t.norm).1) (fit (splitT t.norm).2) = (t.norm, 0) ∧ sameO (fit t.norm) (some t) = true ∧ apartB (fit (splitT t.norm).1) (fit (splitT t.norm).2) = true ∧
    sameO (fit (splitT t.norm).1) (some (.leaf false)) = sameO (some t) (some (.leaf false)) ∧ sameO (fit (splitT t.norm).2) (some (.leaf false)) = sameO (some t) (some (.leaf false)) := by
  have e1 := fit_isSome h1
  have e2 := fit_isSome h2
  rw [e1, e2, fit_norm ht]
  have hs := split_none t.norm (norm_norm t)
  have key : ∀ a b : Tr, (a.norm = .leaf false ↔ t.norm = .leaf false) → sameB a (.leaf false) = sameB t (.leaf false) := fun a b h => by
    rw [sameB_norm, sameB_norm, Bool.eq_iff_iff, eqT_iff, eqT_iff]; exact h
  refine ⟨?_, ?_, ?_, key _ (.leaf false) hs.1, key _ (.leaf false) hs.2⟩
  · have hs : (sumT (splitT t.norm).1 (splitT t.norm).2).norm = t.norm := by rw [split_sum, norm_norm]
    simp only [sumR, split_apart, hs, fit_norm ht, Bool.false_eq_true, if_false, Option.isSome_some, if_true]
  · show sameB t.norm t = true
    rw [sameB_norm, norm_norm, eqT_refl]
  · show (!(bothT _ _)) = true
    rw [split_apart]; rfl
theorem splitR_cases (t : Tr) : (splitR (some t) = ((.leaf false, .leaf false), 41)) ∨ ((fit (splitT t.norm).1).isSome = true ∧ (fit (splitT t.norm).2).isSome = true ∧ splitR (some t) = (splitT t.norm, 0)) := by
  by_cases h : (fit (splitT t.norm).1).isSome = true ∧ (fit (splitT t.norm).2).isSome = true
  · exact .inr ⟨h.1, h.2, if_pos h⟩
  · exact .inl (if_neg h)

set_option maxRecDepth 100000 in
set_option maxHeartbeats 3200000 in
theorem splits_walk (T : Option Tr) (v : Value) (w : World) (hv : Arg w T v) : Calls Try.prog 8 #[v] w fun e w' => e = .returned (.bool true) ∧ Below w.heap.size w w' := by
  obtain ⟨o, A, n, c, rfl⟩ := hv.form
  have HX := Lib.hid ((XS.begin w).boxed (.bool o) (.slice A n c))
  simp only [List.nil_append] at HX
  have HV := Lib.hid hv
  clear hv
  unfold tv
  go_enter Try.func8, Try.ntmps8
  go_wp2_with fail
  refine (shown_any _).mono ?_
  rintro e w1 ⟨rfl, hb1⟩
  have HX1 := Lib.hid (HX.out.next hb1)
  clear hb1 HX
  have f := HX1.out.at0
  simp only [List.mem_cons, List.not_mem_nil, or_false, forall_eq] at f
  obtain ⟨p0, q0, _⟩ := f
  have hc := split_arg (HV.out.up HX1.out.bel)
  unfold tv at hc
  go_wp2_with fail
  refine hc.mono ?_
  rintro e w2 ⟨v1, v2, rfl, h1, h2, hb2⟩
  clear hc p0 q0
  obtain ⟨o1, A1, n1, c1, rfl⟩ := h1.form
  obtain ⟨o2, A2, n2, c2, rfl⟩ := h2.form
  have HX3 := Lib.hid (((HX1.out.next hb2).boxed (.bool o1) (.slice A1 n1 c1)).boxed (.bool o2) (.slice A2 n2 c2))
  simp only [List.nil_append, List.cons_append, World.size_alloc] at HX3
  have hb3 : Below w2.heap.size w2 ((w2.alloc (.cells #[.bool o1, .slice A1 n1 c1] 24)).alloc (.cells #[.bool o2, .slice A2 n2 c2] 24)) := ((Below.refl _ w2).alloc (Nat.le_refl _) _).alloc (by simp) _
  have H1 := Lib.hid (arg_of (h1.up hb3))
  have H2 := Lib.hid (arg_of (h2.up hb3))
  clear h1 h2 hb2 hb3 HX1
  unfold tv
  cases T with
  | none =>
    rw [show splitR none = ((.leaf false, .leaf false), 2) from rfl]
    have hr := right_arg (HV.out.up HX3.out.bel)
    have f := HX3.out.at0
    simp only [List.mem_cons, List.not_mem_nil, or_false, forall_eq_or_imp, forall_eq] at f
    obtain ⟨⟨p0, q0, _⟩, ⟨p1, q1, _⟩, p2, q2, _⟩ := f
    unfold tv at hr
    clear H1 H2
    go_wp2_with fail
    refine hr.mono ?_
    rintro e w4 ⟨rfl, hb4⟩
    have HX4 := Lib.hid (HX3.out.next hb4)
    clear hb4 HX3 p0 q0 p1 q1 p2 q2
    go_wp2
    go_ret
    exact ⟨rfl, HX4.out.bel⟩
  | some t =>
    rcases splitR_cases t with he | ⟨hf1, hf2, he⟩
    · rw [he]
      clear he
      have hr := right_arg (HV.out.up HX3.out.bel)
      have f := HX3.out.at0
      simp only [List.mem_cons, List.not_mem_nil, or_false, forall_eq_or_imp, forall_eq] at f
      obtain ⟨⟨p0, q0, _⟩, ⟨p1, q1, _⟩, p2, q2, _⟩ := f
      unfold tv at hr
      clear H1 H2
      go_wp2_with fail
      refine hr.mono ?_
      rintro e w4 ⟨rfl, hb4⟩
      have HX4 := Lib.hid (HX3.out.next hb4)
      clear hb4 HX3 p0 q0 p1 q1 p2 q2
      go_wp2
      go_ret
      exact ⟨rfl, HX4.out.bel⟩
    · rw [he] at H1 H2 ⊢
      simp only at H1 H2
      obtain ⟨s1, s2, s3, s4, s5⟩ := split_law HV.out.fit hf1 hf2
      have hc := sum_arg H1.out H2.out
      rw [s1] at hc
      clear s1 he
      have f := HX3.out.at0
      simp only [List.mem_cons, List.not_mem_nil, or_false, forall_eq_or_imp, forall_eq] at f
      obtain ⟨⟨p0, q0, _⟩, ⟨p1, q1, _⟩, p2, q2, _⟩ := f
      have HS2 := Lib.hid s2
      have HS3 := Lib.hid s3
      have HS4 := Lib.hid s4
      have HS5 := Lib.hid s5
      have HFN := Lib.hid (fit_norm HV.out.fit)
      unfold tv at hc
      clear s2 s3 s4 s5 hf1 hf2
      go_wp2_with fail
      refine hc.mono ?_
      rintro e w4 ⟨v4, rfl, h4, hb4⟩
      obtain ⟨o4, A4, n4, c4, rfl⟩ := h4.form
      have HX5 := Lib.hid (((HX3.out.next hb4).boxed (.bool o4) (.slice A4 n4 c4)).boxed (.bool false) (.slice none 0 0))
      simp only [List.nil_append, List.cons_append, World.size_alloc] at HX5
      have hb5 : Below w4.heap.size w4 ((w4.alloc (.cells #[.bool o4, .slice A4 n4 c4] 24)).alloc (.cells #[.bool false, .slice none 0 0] 24)) := ((Below.refl _ w4).alloc (Nat.le_refl _) _).alloc (by simp) _
      have H4 := Lib.hid (arg_of (h4.up hb5))
      have HA := Lib.hid ((H1.out.up hb4).up hb5)
      have HB := Lib.hid ((H2.out.up hb4).up hb5)
      have HV5 := Lib.hid (HV.out.up HX5.out.bel)
      simp only at H4
      clear h4 hb4 hb5 hc HX3 H1 H2 HV p0 q0 p1 q1 p2 q2
      unfold tv
      go_wp2
      have hXD := HX5.out.drew
      have hbD : Below ((w4.alloc (.cells #[.bool o4, .slice A4 n4 c4] 24)).alloc (.cells #[.bool false, .slice none 0 0] 24)).heap.size ((w4.alloc (.cells #[.bool o4, .slice A4 n4 c4] 24)).alloc (.cells #[.bool false, .slice none 0 0] 24)) (((w4.alloc (.cells #[.bool o4, .slice A4 n4 c4] 24)).alloc (.cells #[.bool false, .slice none 0 0] 24)).drew) := (Below.refl _ _).drew
      have G4 := Lib.hid (H4.out.up hbD)
      have GA := Lib.hid (HA.out.up hbD)
      have GB := Lib.hid (HB.out.up hbD)
      have GV := Lib.hid (HV5.out.up hbD)
      clear H4 HA HB HV5 HX5 hbD
      refine wp_region_held_drew (S := fun W => XS w [(w.heap.size, .bool o, .slice A n c), (w2.heap.size, .bool o1, .slice A1 n1 c1), (w2.heap.size + 1, .bool o2, .slice A2 n2 c2), (w4.heap.size, .bool o4, .slice A4 n4 c4), (w4.heap.size + 1, .bool false, .slice none 0 0)] [] W) (by kernel_rfl) hXD (fun hS => ?_)
      clear hXD
      generalize ((w4.alloc (.cells #[.bool o4, .slice A4 n4 c4] 24)).alloc (.cells #[.bool false, .slice none 0 0] 24)).drew = wd at hS G4 GA GB GV ⊢
      refine wpAnyH_take (i := 0) (v := ?_) rfl (by kernel_rfl) (by kernel_rfl) (by kernel_rfl) (fun _ _ _ h => h) (Yields.yieldsIf (Or.inl ⟨by kernel_rfl, ?_⟩)) hS ?_
      rotate_left
      · first | (intro w; go_simp; done) | (intro w; go_simp; with_reducible rfl)
      refine wpAnyH_take (i := 1) (v := ?_) rfl (by kernel_rfl) (by kernel_rfl) (by kernel_rfl) (fun _ _ _ h => h) (Yields.yieldsIf (Or.inl ⟨by kernel_rfl, ?_⟩)) hS ?_
      rotate_left
      · first | (intro w; go_simp; done) | (intro w; go_simp; with_reducible rfl)
      refine wpAnyH_take (i := 2) (v := ?_) rfl (by kernel_rfl) (by kernel_rfl) (by kernel_rfl) (fun _ _ _ h => h) (Yields.yieldsIf (Or.inl ⟨by kernel_rfl, ?_⟩)) hS ?_
      rotate_left
      · first | (intro w; go_simp; done) | (intro w; go_simp; with_reducible rfl)
      refine wpAnyH_take (i := 3) (v := ?_) rfl (by kernel_rfl) (by kernel_rfl) (by kernel_rfl) (fun _ _ _ h => h) (Yields.yieldsIf (Or.inl ⟨by kernel_rfl, ?_⟩)) hS ?_
      rotate_left
      · first | (intro w; go_simp; done) | (intro w; go_simp; with_reducible rfl)
      refine wpAnyH_take (i := 4) (v := ?_) rfl (by kernel_rfl) (by kernel_rfl) (by kernel_rfl) (fun _ _ _ h => h) (Yields.yieldsIf (Or.inl ⟨by kernel_rfl, ?_⟩)) hS ?_
      rotate_left
      · first | (intro w; go_simp; done) | (intro w; go_simp; with_reducible rfl)
      refine wpAnyH_take (i := 5) (v := ?_) rfl (by kernel_rfl) (by kernel_rfl) (by kernel_rfl) (fun _ _ _ h => h) (Yields.yieldsIf (Or.inl ⟨by kernel_rfl, ?_⟩)) hS ?_
      rotate_left
      · first | (intro w; go_simp; done) | (intro w; go_simp; with_reducible rfl)
      refine wpAnyH_take (i := 6) (v := ?_) rfl (by kernel_rfl) (by kernel_rfl) (by kernel_rfl) (fun _ _ _ h => h) (Or.inl ⟨by kernel_rfl, fun W hW => ?_⟩) hS ?_
      rotate_left
      · have f := hW.at0
        simp only [List.mem_cons, List.not_mem_nil, or_false, forall_eq_or_imp, forall_eq] at f
        obtain ⟨⟨p0, q0, _⟩, ⟨p1, q1, _⟩, ⟨p2, q2, _⟩, ⟨p3, q3, _⟩, p4, q4, _⟩ := f
        first | (go_simp; done) | (go_simp; with_reducible rfl)
      refine wpAnyH_take (i := 7) (v := ?_) rfl (by kernel_rfl) (by kernel_rfl) (by kernel_rfl) (fun _ _ _ h => h) (Or.inl ⟨by kernel_rfl, fun W hW => ?_⟩) hS ?_
      rotate_left
      · have f := hW.at0
        simp only [List.mem_cons, List.not_mem_nil, or_false, forall_eq_or_imp, forall_eq] at f
        obtain ⟨⟨p0, q0, _⟩, ⟨p1, q1, _⟩, ⟨p2, q2, _⟩, ⟨p3, q3, _⟩, p4, q4, _⟩ := f
        first | (go_simp; done) | (go_simp; with_reducible rfl)
      refine wpAnyH_ready (rs := [8]) (by kernel_rfl) (by simp) ?_
      refine AllReadyH.cons rfl (fun K hK => ?_) AllReadyH.nil
      go_simp
      go_wp2_with (go_at_call 24; refine (same_arg G4.out GV.out).mono ?_; rintro e w6 ⟨rfl, hb6⟩)
      rw [HFN.out, show sameO (some t.norm) (some t) = true from (by have := HS2.out; rw [HFN.out] at this; exact this)]
      have hS3 := hS.next hb6
      have KG4 := Lib.hid (G4.out.up hb6)
      have KGA := Lib.hid (GA.out.up hb6)
      have KGB := Lib.hid (GB.out.up hb6)
      have KGV := Lib.hid (GV.out.up hb6)
      clear G4 GA GB GV hb6 hS
      have G4 := Lib.hid KG4.out
      have GA := Lib.hid KGA.out
      have GB := Lib.hid KGB.out
      have GV := Lib.hid KGV.out
      clear KG4 KGA KGB KGV
      refine hK.out _ _ hS3 (fun hS => ?_)
      clear hK K hS3
      refine wpAnyH_take (i := 9) (v := ?_) rfl (by kernel_rfl) (by kernel_rfl) (by kernel_rfl) (fun _ _ _ h => h) (Yields.yieldsIf (Or.inl ⟨by kernel_rfl, ?_⟩)) hS ?_
      rotate_left
      · first | (intro w; go_simp; done) | (intro w; go_simp; with_reducible rfl)
      refine wpAnyH_take (i := 10) (v := ?_) rfl (by kernel_rfl) (by kernel_rfl) (by kernel_rfl) (fun _ _ _ h => h) (Yields.yieldsIf (Or.inl ⟨by kernel_rfl, ?_⟩)) hS ?_
      rotate_left
      · first | (intro w; go_simp; done) | (intro w; go_simp; with_reducible rfl)
      refine wpAnyH_take (i := 11) (v := ?_) rfl (by kernel_rfl) (by kernel_rfl) (by kernel_rfl) (fun _ _ _ h => h) (Or.inl ⟨by kernel_rfl, fun W hW => ?_⟩) hS ?_
      rotate_left
      · have f := hW.at0
        simp only [List.mem_cons, List.not_mem_nil, or_false, forall_eq_or_imp, forall_eq] at f
        obtain ⟨⟨p0, q0, _⟩, ⟨p1, q1, _⟩, ⟨p2, q2, _⟩, ⟨p3, q3, _⟩, p4, q4, _⟩ := f
        first | (go_simp; done) | (go_simp; with_reducible rfl)
      refine wpAnyH_take (i := 12) (v := ?_) rfl (by kernel_rfl) (by kernel_rfl) (by kernel_rfl) (fun _ _ _ h => h) (Or.inl ⟨by kernel_rfl, fun W hW => ?_⟩) hS ?_
      rotate_left
      · have f := hW.at0
        simp only [List.mem_cons, List.not_mem_nil, or_false, forall_eq_or_imp, forall_eq] at f
        obtain ⟨⟨p0, q0, _⟩, ⟨p1, q1, _⟩, ⟨p2, q2, _⟩, ⟨p3, q3, _⟩, p4, q4, _⟩ := f
        first | (go_simp; done) | (go_simp; with_reducible rfl)
      refine wpAnyH_ready (rs := [13]) (by kernel_rfl) (by simp) ?_
      refine AllReadyH.cons rfl (fun K hK => ?_) AllReadyH.nil
      go_simp
      go_wp2_with (go_at_call 22; refine (apart_arg GA.out GB.out).mono ?_; rintro e w7 ⟨rfl, hb7⟩)
      rw [HS3.out]
      have hS3 := hS.next hb7
      have KGA := Lib.hid (GA.out.up hb7)
      have KGB := Lib.hid (GB.out.up hb7)
      have KGV := Lib.hid (GV.out.up hb7)
      clear GA GB GV hb7 hS
      have GA := Lib.hid KGA.out
      have GB := Lib.hid KGB.out
      have GV := Lib.hid KGV.out
      clear KGA KGB KGV
      refine hK.out _ _ hS3 (fun hS => ?_)
      clear hK K hS3
      refine wpAnyH_take (i := 14) (v := ?_) rfl (by kernel_rfl) (by kernel_rfl) (by kernel_rfl) (fun _ _ _ h => h) (Yields.yieldsIf (Or.inl ⟨by kernel_rfl, ?_⟩)) hS ?_
      rotate_left
      · first | (intro w; go_simp; done) | (intro w; go_simp; with_reducible rfl)
      refine wpAnyH_take (i := 15) (v := ?_) rfl (by kernel_rfl) (by kernel_rfl) (by kernel_rfl) (fun _ _ _ h => h) (Yields.yieldsIf (Or.inl ⟨by kernel_rfl, ?_⟩)) hS ?_
      rotate_left
      · first | (intro w; go_simp; done) | (intro w; go_simp; with_reducible rfl)
      refine wpAnyH_take (i := 16) (v := ?_) rfl (by kernel_rfl) (by kernel_rfl) (by kernel_rfl) (fun _ _ _ h => h) (Or.inl ⟨by kernel_rfl, fun W hW => ?_⟩) hS ?_
      rotate_left
      · have f := hW.at0
        simp only [List.mem_cons, List.not_mem_nil, or_false, forall_eq_or_imp, forall_eq] at f
        obtain ⟨⟨p0, q0, _⟩, ⟨p1, q1, _⟩, ⟨p2, q2, _⟩, ⟨p3, q3, _⟩, p4, q4, _⟩ := f
        first | (go_simp; done) | (go_simp; with_reducible rfl)
      refine wpAnyH_take (i := 17) (v := ?_) rfl (by kernel_rfl) (by kernel_rfl) (by kernel_rfl) (fun _ _ _ h => h) (Or.inl ⟨by kernel_rfl, fun W hW => ?_⟩) hS ?_
      rotate_left
      · have f := hW.at0
        simp only [List.mem_cons, List.not_mem_nil, or_false, forall_eq_or_imp, forall_eq] at f
        obtain ⟨⟨p0, q0, _⟩, ⟨p1, q1, _⟩, ⟨p2, q2, _⟩, ⟨p3, q3, _⟩, p4, q4, _⟩ := f
        first | (go_simp; done) | (go_simp; with_reducible rfl)
      refine wpAnyH_take (i := 19) (v := ?_) rfl (by kernel_rfl) (by kernel_rfl) (by kernel_rfl) (fun _ _ _ h => h) (Or.inl ⟨by kernel_rfl, fun W hW => ?_⟩) hS ?_
      rotate_left
      · have f := hW.at0
        simp only [List.mem_cons, List.not_mem_nil, or_false, forall_eq_or_imp, forall_eq] at f
        obtain ⟨⟨p0, q0, _⟩, ⟨p1, q1, _⟩, ⟨p2, q2, _⟩, ⟨p3, q3, _⟩, p4, q4, _⟩ := f
        first | (go_simp; done) | (go_simp; with_reducible rfl)
      refine wpAnyH_take (i := 20) (v := ?_) rfl (by kernel_rfl) (by kernel_rfl) (by kernel_rfl) (fun _ _ _ h => h) (Or.inl ⟨by kernel_rfl, fun W hW => ?_⟩) hS ?_
      rotate_left
      · have f := hW.at0
        simp only [List.mem_cons, List.not_mem_nil, or_false, forall_eq_or_imp, forall_eq] at f
        obtain ⟨⟨p0, q0, _⟩, ⟨p1, q1, _⟩, ⟨p2, q2, _⟩, ⟨p3, q3, _⟩, p4, q4, _⟩ := f
        first | (go_simp; done) | (go_simp; with_reducible rfl)
      refine wpAnyH_ready (rs := [18]) (by kernel_rfl) (by simp) ?_
      refine AllReadyH.cons rfl (fun K hK => ?_) AllReadyH.nil
      go_simp
      go_wp2_with (go_at_call 24; refine (same_arg GA.out (none_arg _)).mono ?_; rintro e w8 ⟨rfl, hb8⟩)
      have hS3 := hS.next hb8
      have KGA := Lib.hid (GA.out.up hb8)
      have KGB := Lib.hid (GB.out.up hb8)
      have KGV := Lib.hid (GV.out.up hb8)
      clear GA GB GV hb8 hS
      have GA := Lib.hid KGA.out
      have GB := Lib.hid KGB.out
      have GV := Lib.hid KGV.out
      clear KGA KGB KGV
      refine hK.out _ _ hS3 (fun hS => ?_)
      clear hK K hS3
      refine wpAnyH_ready (rs := [21]) (by kernel_rfl) (by simp) ?_
      refine AllReadyH.cons rfl (fun K hK => ?_) AllReadyH.nil
      go_simp
      go_wp2_with (go_at_call 24; refine (same_arg GV.out (none_arg _)).mono ?_; rintro e w9 ⟨rfl, hb9⟩)
      rw [HS4.out]
      have hS3 := hS.next hb9
      have KGB := Lib.hid (GB.out.up hb9)
      have KGV := Lib.hid (GV.out.up hb9)
      clear GB GV hb9 hS
      have GB := Lib.hid KGB.out
      have GV := Lib.hid KGV.out
      clear KGB KGV
      refine hK.out _ _ hS3 (fun hS => ?_)
      clear hK K hS3
      refine wpAnyH_take (i := 22) (v := ?_) rfl (by kernel_rfl) (by kernel_rfl) (by kernel_rfl) (fun _ _ _ h => h) (Yields.yieldsIf (Or.inl ⟨by kernel_rfl, ?_⟩)) hS ?_
      rotate_left
      · first | (intro w; go_simp; done) | (intro w; go_simp; with_reducible rfl)
      refine wpAnyH_take (i := 23) (v := ?_) rfl (by kernel_rfl) (by kernel_rfl) (by kernel_rfl) (fun _ _ _ h => h) (Yields.yieldsIf (Or.inl ⟨by kernel_rfl, ?_⟩)) hS ?_
      rotate_left
      · first | (intro w; go_simp; done) | (intro w; go_simp; with_reducible rfl)
      refine wpAnyH_take (i := 24) (v := ?_) rfl (by kernel_rfl) (by kernel_rfl) (by kernel_rfl) (fun _ _ _ h => h) (Yields.yieldsIf (Or.inl ⟨by kernel_rfl, ?_⟩)) hS ?_
      rotate_left
      · first | (intro w; go_simp; done) | (intro w; go_simp; with_reducible rfl)
      refine wpAnyH_take (i := 25) (v := ?_) rfl (by kernel_rfl) (by kernel_rfl) (by kernel_rfl) (fun _ _ _ h => h) (Or.inl ⟨by kernel_rfl, fun W hW => ?_⟩) hS ?_
      rotate_left
      · have f := hW.at0
        simp only [List.mem_cons, List.not_mem_nil, or_false, forall_eq_or_imp, forall_eq] at f
        obtain ⟨⟨p0, q0, _⟩, ⟨p1, q1, _⟩, ⟨p2, q2, _⟩, ⟨p3, q3, _⟩, p4, q4, _⟩ := f
        first | (go_simp; done) | (go_simp; with_reducible rfl)
      refine wpAnyH_take (i := 26) (v := ?_) rfl (by kernel_rfl) (by kernel_rfl) (by kernel_rfl) (fun _ _ _ h => h) (Or.inl ⟨by kernel_rfl, fun W hW => ?_⟩) hS ?_
      rotate_left
      · have f := hW.at0
        simp only [List.mem_cons, List.not_mem_nil, or_false, forall_eq_or_imp, forall_eq] at f
        obtain ⟨⟨p0, q0, _⟩, ⟨p1, q1, _⟩, ⟨p2, q2, _⟩, ⟨p3, q3, _⟩, p4, q4, _⟩ := f
        first | (go_simp; done) | (go_simp; with_reducible rfl)
      refine wpAnyH_take (i := 28) (v := ?_) rfl (by kernel_rfl) (by kernel_rfl) (by kernel_rfl) (fun _ _ _ h => h) (Or.inl ⟨by kernel_rfl, fun W hW => ?_⟩) hS ?_
      rotate_left
      · have f := hW.at0
        simp only [List.mem_cons, List.not_mem_nil, or_false, forall_eq_or_imp, forall_eq] at f
        obtain ⟨⟨p0, q0, _⟩, ⟨p1, q1, _⟩, ⟨p2, q2, _⟩, ⟨p3, q3, _⟩, p4, q4, _⟩ := f
        first | (go_simp; done) | (go_simp; with_reducible rfl)
      refine wpAnyH_take (i := 29) (v := ?_) rfl (by kernel_rfl) (by kernel_rfl) (by kernel_rfl) (fun _ _ _ h => h) (Or.inl ⟨by kernel_rfl, fun W hW => ?_⟩) hS ?_
      rotate_left
      · have f := hW.at0
        simp only [List.mem_cons, List.not_mem_nil, or_false, forall_eq_or_imp, forall_eq] at f
        obtain ⟨⟨p0, q0, _⟩, ⟨p1, q1, _⟩, ⟨p2, q2, _⟩, ⟨p3, q3, _⟩, p4, q4, _⟩ := f
        first | (go_simp; done) | (go_simp; with_reducible rfl)
      refine wpAnyH_ready (rs := [27]) (by kernel_rfl) (by simp) ?_
      refine AllReadyH.cons rfl (fun K hK => ?_) AllReadyH.nil
      go_simp
      go_wp2_with (go_at_call 24; refine (same_arg GB.out (none_arg _)).mono ?_; rintro e w10 ⟨rfl, hb10⟩)
      have hS3 := hS.next hb10
      have KGV := Lib.hid (GV.out.up hb10)
      clear GV hb10 hS
      have GV := Lib.hid KGV.out
      clear KGV
      refine hK.out _ _ hS3 (fun hS => ?_)
      clear hK K hS3
      refine wpAnyH_ready (rs := [30]) (by kernel_rfl) (by simp) ?_
      refine AllReadyH.cons rfl (fun K hK => ?_) AllReadyH.nil
      go_simp
      go_wp2_with (go_at_call 24; refine (same_arg GV.out (none_arg _)).mono ?_; rintro e w11 ⟨rfl, hb11⟩)
      rw [HS5.out]
      have hS3 := hS.next hb11
      clear hb11 hS GV
      refine hK.out _ _ hS3 (fun hS => ?_)
      clear hK K hS3
      refine wpAnyH_take (i := 31) (v := ?_) rfl (by kernel_rfl) (by kernel_rfl) (by kernel_rfl) (fun _ _ _ h => h) (Yields.yieldsIf (Or.inl ⟨by kernel_rfl, ?_⟩)) hS ?_
      rotate_left
      · first | (intro w; go_simp; done) | (intro w; go_simp; with_reducible rfl)
      refine wpAnyH_take (i := 32) (v := ?_) rfl (by kernel_rfl) (by kernel_rfl) (by kernel_rfl) (fun _ _ _ h => h) (Yields.yieldsIf (Or.inl ⟨by kernel_rfl, ?_⟩)) hS ?_
      rotate_left
      · first | (intro w; go_simp; done) | (intro w; go_simp; with_reducible rfl)
      refine wpAnyH_take (i := 33) (v := ?_) rfl (by kernel_rfl) (by kernel_rfl) (by kernel_rfl) (fun _ _ _ h => h) (Yields.yieldsIf (Or.inl ⟨by kernel_rfl, ?_⟩)) hS ?_
      rotate_left
      · first | (intro w; go_simp; done) | (intro w; go_simp; with_reducible rfl)
      refine wpAnyH_done (by kernel_rfl) ?_ _
      have HB := Lib.hid hS.bel
      clear hS
      go_wp2
      go_ret
      exact ⟨ret_bool (by simp), HB.out⟩
end Go.Proofs.Ytkpefelakhbkhaa.I
