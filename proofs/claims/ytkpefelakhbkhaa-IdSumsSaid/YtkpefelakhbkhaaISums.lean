/-
  The reference's Sum, Apart, Same of trees that are handed in; IdSums: the walk of the law.
-/
import Derived.Test.YtkpefelakhbkhaaIThree
import Derived.Test.YtkpefelakhbkhaaIApart
namespace Go.Proofs.Ytkpefelakhbkhaa.I
open Go.RowKit

theorem SumR.ans {a b : Option Tr} {w w' : World} {e : Ending} (ha : ∀ s, a = some s → s.depth ≤ 32) (hb : ∀ s, b = some s → s.depth ≤ 32) (h : SumR a b w e w') : Ans (sumR a b) w e w' := by
  obtain ⟨h1, hbel⟩ := h
  rcases h1 with ⟨s, t, v, u, rfl, rfl, hm, hu, hf, rfl, hin⟩ | ⟨s, t, rfl, rfl, hm, rfl⟩ | ⟨s, t, u, rfl, rfl, hm, hu, hf, rfl⟩ | ⟨hn, rfl⟩
  · have hd1 := ha s rfl
    have hd2 := hb t rfl
    have hbo : bothT s t = false := (meet_both s t 32 0 hd1 hd2).symm.trans hm
    have hu2 : u = (sumT s t).norm := hu.trans (build_sum s t 32 0 hd1 hd2 hbo)
    subst hu2
    have e : sumR (some s) (some t) = ((sumT s t).norm, 0) := by
      simp only [sumR, hbo, fit_of hf.1 hf.2, Bool.false_eq_true, if_false, Option.isSome_some, if_true]
    rw [e]
    exact ⟨v, rfl, hin, hbel⟩
  · have hbo : bothT s t = true := (meet_both s t 32 0 (ha s rfl) (hb t rfl)).symm.trans hm
    have e : sumR (some s) (some t) = (.leaf false, 42) := if_pos hbo
    rw [e]
    exact ⟨_, rfl, zero_in _ _, hbel⟩
  · have hd1 := ha s rfl
    have hd2 := hb t rfl
    have hbo : bothT s t = false := (meet_both s t 32 0 hd1 hd2).symm.trans hm
    have hu2 : u = (sumT s t).norm := hu.trans (build_sum s t 32 0 hd1 hd2 hbo)
    subst hu2
    have hf2 : fit (sumT s t).norm = none := if_neg hf
    have e : sumR (some s) (some t) = (.leaf false, 2) := by
      simp only [sumR, hbo, hf2, Bool.false_eq_true, if_false, Option.isSome_none]
    rw [e]
    exact ⟨_, rfl, zero_in _ _, hbel⟩
  · have e : sumR a b = (.leaf false, 2) := by
      rcases hn with rfl | rfl
      · rfl
      · cases a <;> rfl
    rw [e]
    exact ⟨_, rfl, zero_in _ _, hbel⟩
theorem rsum_arg {w : World} {S T : Option Tr} {u v : Value} (hu : Arg w S u) (hv : Arg w T v) : Calls Try.prog 21 #[u, v] w (Ans (sumR S T) w) := by
  obtain ⟨o1, k1, A1, c1, rfl, h1, rfl⟩ := hu
  obtain ⟨o2, k2, A2, c2, rfl, h2, rfl⟩ := hv
  exact (rsum_any o1 k1 A1 c1 o2 k2 A2 c2 w h1 h2).mono fun e w' h => h.ans (fun s hs => (treeOf_small hs).1) (fun s hs => (treeOf_small hs).1)
theorem rapart_arg {w : World} {S T : Option Tr} {u v : Value} (hu : Arg w S u) (hv : Arg w T v) : Calls Try.prog 23 #[u, v] w fun e w' => e = .returned (.bool (apartB S T)) ∧ Below w.heap.size w w' := by
  obtain ⟨o1, k1, A1, c1, rfl, h1, rfl⟩ := hu
  obtain ⟨o2, k2, A2, c2, rfl, h2, rfl⟩ := hv
  refine (rapart_any o1 k1 A1 c1 o2 k2 A2 c2 w h1 h2).mono fun e w' h => ⟨h.1.trans (ret_bool ?_), h.2⟩
  unfold apartR apartB
  cases hs : treeOf o1 k1 with
  | none => rfl
  | some s =>
    cases ht : treeOf o2 k2 with
    | none => rfl
    | some t =>
      have := meet_both s t 32 0 (treeOf_small hs).1 (treeOf_small ht).1
      simp only
      rw [← this]
theorem rsame_arg {w : World} {S T : Option Tr} {u v : Value} (hu : Arg w S u) (hv : Arg w T v) : Calls Try.prog 25 #[u, v] w fun e w' => e = .returned (.bool (sameO S T)) ∧ Below w.heap.size w w' := by
  obtain ⟨o1, k1, A1, c1, rfl, h1, rfl⟩ := hu
  obtain ⟨o2, k2, A2, c2, rfl, h2, rfl⟩ := hv
  refine (rsame_any o1 k1 A1 c1 o2 k2 A2 c2 w h1 h2).mono fun e w' h => ⟨h.1.trans (ret_bool ?_), h.2⟩
  unfold sameT sameO
  cases hs : treeOf o1 k1 with
  | none => rfl
  | some s =>
    cases ht : treeOf o2 k2 with
    | none => rfl
    | some t => simp only [sameB_norm]

set_option maxRecDepth 100000 in
set_option maxHeartbeats 6400000 in
theorem sums_walk (TA : Option Tr) (a : Value) (TB : Option Tr) (b : Value) (w : World) (ha : Arg w TA a) (hb : Arg w TB b) : Calls Try.prog 4 #[a, b] w fun e w' => e = .returned (.bool true) ∧ Below w.heap.size w w' := by
  obtain ⟨o1, A1, n1, c1, rfl⟩ := ha.form
  obtain ⟨o2, A2, n2, c2, rfl⟩ := hb.form
  have HX := Lib.hid (((XS.begin w).boxed (.bool o1) (.slice A1 n1 c1)).boxed (.bool o2) (.slice A2 n2 c2))
  simp only [List.nil_append, List.cons_append, World.size_alloc] at HX
  have HA := Lib.hid ha
  have HB := Lib.hid hb
  clear ha hb
  unfold tv
  go_enter Try.func4, Try.ntmps4
  go_wp2_with fail
  refine (shown_any _).mono ?_
  rintro e w1 ⟨rfl, hb1⟩
  have HX1 := Lib.hid (HX.out.next hb1)
  clear hb1 HX
  have f := HX1.out.at0
  simp only [List.mem_cons, List.not_mem_nil, or_false, forall_eq_or_imp, forall_eq] at f
  obtain ⟨⟨p0, q0, _⟩, p1, q1, _⟩ := f
  have hcall := sum_arg (HA.out.up HX1.out.bel) (HB.out.up HX1.out.bel)
  unfold tv at hcall
  go_wp2_with fail
  refine hcall.mono ?_
  rintro e w11 ⟨v11, rfl, h11, hb11⟩
  obtain ⟨o11, A11, n11, c11, rfl⟩ := h11.form
  have HX2 := Lib.hid ((HX1.out.next hb11).boxed (.bool o11) (.slice A11 n11 c11))
  simp only [List.nil_append, List.cons_append] at HX2
  have hd11 : Below w11.heap.size w11 (w11.alloc (.cells #[.bool o11, .slice A11 n11 c11] 24)) := (Below.refl _ w11).alloc (Nat.le_refl _) _
  have T11 := Lib.hid (h11.up hd11)
  clear hcall HX1 p0 q0 p1 q1 h11 hb11 hd11
  unfold tv
  have f := HX2.out.at0
  simp only [List.mem_cons, List.not_mem_nil, or_false, forall_eq_or_imp, forall_eq] at f
  obtain ⟨⟨p0, q0, _⟩, ⟨p1, q1, _⟩, p2, q2, _⟩ := f
  have hcall := rsum_arg (HA.out.up HX2.out.bel) (HB.out.up HX2.out.bel)
  unfold tv at hcall
  go_wp2_with fail
  refine hcall.mono ?_
  rintro e w12 ⟨v12, rfl, h12, hb12⟩
  obtain ⟨o12, A12, n12, c12, rfl⟩ := h12.form
  have HX3 := Lib.hid ((HX2.out.next hb12).boxed (.bool o12) (.slice A12 n12 c12))
  simp only [List.nil_append, List.cons_append] at HX3
  have hd12 : Below w12.heap.size w12 (w12.alloc (.cells #[.bool o12, .slice A12 n12 c12] 24)) := (Below.refl _ w12).alloc (Nat.le_refl _) _
  have T12 := Lib.hid (h12.up hd12)
  have KT11 := Lib.hid ((T11.out.up hb12).up hd12)
  clear T11
  have T11 := Lib.hid KT11.out
  clear KT11
  clear hcall HX2 p0 q0 p1 q1 p2 q2 h12 hb12 hd12
  unfold tv
  obtain ⟨r, hr⟩ : ∃ r, sumR TA TB = r := ⟨_, rfl⟩
  rw [hr] at T11 T12 ⊢
  obtain ⟨r1, z⟩ := r
  simp only at T11 T12
  clear hr
  have hbD : Below (w12.alloc (.cells #[.bool o12, .slice A12 n12 c12] 24)).heap.size (w12.alloc (.cells #[.bool o12, .slice A12 n12 c12] 24)) (w12.alloc (.cells #[.bool o12, .slice A12 n12 c12] 24)).drew := (Below.refl _ _).drew
  have G1 := Lib.hid (T11.out.up hbD)
  have G2 := Lib.hid (T12.out.up hbD)
  have hXD := HX3.out.drew
  clear T11 T12 HX3 hbD
  go_wp2
  refine wp_region_held_drew (S := fun W => XS w [(w.heap.size, .bool o1, .slice A1 n1 c1), (w.heap.size + 1, .bool o2, .slice A2 n2 c2), (w11.heap.size, .bool o11, .slice A11 n11 c11), (w12.heap.size, .bool o12, .slice A12 n12 c12)] [] W) (by kernel_rfl) hXD (fun hS => ?_)
  clear hXD
  generalize (w12.alloc (.cells #[.bool o12, .slice A12 n12 c12] 24)).drew = wd at hS G1 G2 ⊢
  refine wpAnyH_take (i := 0) (v := ?_) rfl (by kernel_rfl) (by kernel_rfl) (by kernel_rfl) (fun _ _ _ h => h) (Yields.yieldsIf (Or.inl ⟨by kernel_rfl, ?_⟩)) hS ?_
  rotate_left
  · first | (intro w; go_simp; done) | (intro w; go_simp; with_reducible rfl)
  refine wpAnyH_take (i := 1) (v := ?_) rfl (by kernel_rfl) (by kernel_rfl) (by kernel_rfl) (fun _ _ _ h => h) (Yields.yieldsIf (Or.inl ⟨by kernel_rfl, ?_⟩)) hS ?_
  rotate_left
  · first | (intro w; go_simp; done) | (intro w; go_simp; with_reducible rfl)
  refine wpAnyH_take (i := 2) (v := ?_) rfl (by kernel_rfl) (by kernel_rfl) (by kernel_rfl) (fun _ _ _ h => h) (Or.inl ⟨by kernel_rfl, fun W hW => ?_⟩) hS ?_
  rotate_left
  · have f := hW.at0
    simp only [List.mem_cons, List.not_mem_nil, or_false, forall_eq_or_imp, forall_eq] at f
    obtain ⟨⟨p0, q0, _⟩, ⟨p1, q1, _⟩, ⟨p2, q2, _⟩, p3, q3, _⟩ := f
    first | (go_simp; done) | (go_simp; with_reducible rfl)
  refine wpAnyH_take (i := 3) (v := ?_) rfl (by kernel_rfl) (by kernel_rfl) (by kernel_rfl) (fun _ _ _ h => h) (Or.inl ⟨by kernel_rfl, fun W hW => ?_⟩) hS ?_
  rotate_left
  · have f := hW.at0
    simp only [List.mem_cons, List.not_mem_nil, or_false, forall_eq_or_imp, forall_eq] at f
    obtain ⟨⟨p0, q0, _⟩, ⟨p1, q1, _⟩, ⟨p2, q2, _⟩, p3, q3, _⟩ := f
    first | (go_simp; done) | (go_simp; with_reducible rfl)
  refine wpAnyH_ready (rs := [4]) (by kernel_rfl) (by simp) ?_
  refine AllReadyH.cons rfl (fun K hK => ?_) AllReadyH.nil
  go_simp
  go_wp2_with (go_at_call 19; refine (equal_any _ _ _ _ _ G1.out G2.out).mono ?_; rintro e w20 ⟨rfl, hb20⟩)
  rw [eqT_refl]
  have hS3 := hS.next hb20
  clear hb20 hS
  clear G1 G2
  refine hK.out _ _ hS3 (fun hS => ?_)
  clear hK K hS3
  refine wpAnyH_take (i := 5) (v := ?_) rfl (by kernel_rfl) (by kernel_rfl) (by kernel_rfl) (fun _ _ _ h => h) (Yields.yieldsIf (Or.inl ⟨by kernel_rfl, ?_⟩)) hS ?_
  rotate_left
  · first | (intro w; go_simp; done) | (intro w; go_simp; with_reducible rfl)
  refine wpAnyH_take (i := 6) (v := ?_) rfl (by kernel_rfl) (by kernel_rfl) (by kernel_rfl) (fun _ _ _ h => h) (Yields.yieldsIf (Or.inl ⟨by kernel_rfl, ?_⟩)) hS ?_
  rotate_left
  · first | (intro w; go_simp; done) | (intro w; go_simp; with_reducible rfl)
  refine wpAnyH_take (i := 7) (v := ?_) rfl (by kernel_rfl) (by kernel_rfl) (by kernel_rfl) (fun _ _ _ h => h) (Yields.yieldsIf (Or.inl ⟨by kernel_rfl, ?_⟩)) hS ?_
  rotate_left
  · first | (intro w; go_simp; done) | (intro w; go_simp; with_reducible rfl)
  refine wpAnyH_take (i := 8) (v := ?_) rfl (by kernel_rfl) (by kernel_rfl) (by kernel_rfl) (fun _ _ _ h => h) (Yields.yieldsIf (Or.inl ⟨by kernel_rfl, ?_⟩)) hS ?_
  rotate_left
  · first | (intro w; go_simp; done) | (intro w; go_simp; with_reducible rfl)
  refine wpAnyH_take (i := 9) (v := ?_) rfl (by kernel_rfl) (by kernel_rfl) (by kernel_rfl) (fun _ _ _ h => h) (Yields.yieldsIf (Or.inl ⟨by kernel_rfl, ?_⟩)) hS ?_
  rotate_left
  · first | (intro w; go_simp; done) | (intro w; go_simp; with_reducible rfl)
  refine wpAnyH_take (i := 10) (v := ?_) rfl (by kernel_rfl) (by kernel_rfl) (by kernel_rfl) (fun _ _ _ h => h) (Yields.yieldsIf (Or.inl ⟨by kernel_rfl, ?_⟩)) hS ?_
  rotate_left
  · first | (intro w; go_simp; done) | (intro w; go_simp; with_reducible rfl)
  refine wpAnyH_take (i := 11) (v := ?_) rfl (by kernel_rfl) (by kernel_rfl) (by kernel_rfl) (fun _ _ _ h => h) (Yields.yieldsIf (Or.inl ⟨by kernel_rfl, ?_⟩)) hS ?_
  rotate_left
  · first | (intro w; go_simp; done) | (intro w; go_simp; with_reducible rfl)
  refine wpAnyH_take (i := 12) (v := ?_) rfl (by kernel_rfl) (by kernel_rfl) (by kernel_rfl) (fun _ _ _ h => h) (Or.inl ⟨by kernel_rfl, fun W hW => ?_⟩) hS ?_
  rotate_left
  · have f := hW.at0
    simp only [List.mem_cons, List.not_mem_nil, or_false, forall_eq_or_imp, forall_eq] at f
    obtain ⟨⟨p0, q0, _⟩, ⟨p1, q1, _⟩, ⟨p2, q2, _⟩, p3, q3, _⟩ := f
    first | (go_simp; done) | (go_simp; with_reducible rfl)
  refine wpAnyH_take (i := 13) (v := ?_) rfl (by kernel_rfl) (by kernel_rfl) (by kernel_rfl) (fun _ _ _ h => h) (Or.inl ⟨by kernel_rfl, fun W hW => ?_⟩) hS ?_
  rotate_left
  · have f := hW.at0
    simp only [List.mem_cons, List.not_mem_nil, or_false, forall_eq_or_imp, forall_eq] at f
    obtain ⟨⟨p0, q0, _⟩, ⟨p1, q1, _⟩, ⟨p2, q2, _⟩, p3, q3, _⟩ := f
    first | (go_simp; done) | (go_simp; with_reducible rfl)
  refine wpAnyH_take (i := 15) (v := ?_) rfl (by kernel_rfl) (by kernel_rfl) (by kernel_rfl) (fun _ _ _ h => h) (Or.inl ⟨by kernel_rfl, fun W hW => ?_⟩) hS ?_
  rotate_left
  · have f := hW.at0
    simp only [List.mem_cons, List.not_mem_nil, or_false, forall_eq_or_imp, forall_eq] at f
    obtain ⟨⟨p0, q0, _⟩, ⟨p1, q1, _⟩, ⟨p2, q2, _⟩, p3, q3, _⟩ := f
    first | (go_simp; done) | (go_simp; with_reducible rfl)
  refine wpAnyH_take (i := 16) (v := ?_) rfl (by kernel_rfl) (by kernel_rfl) (by kernel_rfl) (fun _ _ _ h => h) (Or.inl ⟨by kernel_rfl, fun W hW => ?_⟩) hS ?_
  rotate_left
  · have f := hW.at0
    simp only [List.mem_cons, List.not_mem_nil, or_false, forall_eq_or_imp, forall_eq] at f
    obtain ⟨⟨p0, q0, _⟩, ⟨p1, q1, _⟩, ⟨p2, q2, _⟩, p3, q3, _⟩ := f
    first | (go_simp; done) | (go_simp; with_reducible rfl)
  refine wpAnyH_ready (rs := [14]) (by kernel_rfl) (by simp) ?_
  refine AllReadyH.cons rfl (fun K hK => ?_) AllReadyH.nil
  go_simp
  go_wp2_with (go_at_call 22; refine (apart_arg (HA.out.up hS.bel) (HB.out.up hS.bel)).mono ?_; rintro e w21 ⟨rfl, hb21⟩)
  have hS3 := hS.next hb21
  clear hb21 hS
  refine hK.out _ _ hS3 (fun hS => ?_)
  clear hK K hS3
  refine wpAnyH_ready (rs := [17]) (by kernel_rfl) (by simp) ?_
  refine AllReadyH.cons rfl (fun K hK => ?_) AllReadyH.nil
  go_simp
  go_wp2_with (go_at_call 23; refine (rapart_arg (HA.out.up hS.bel) (HB.out.up hS.bel)).mono ?_; rintro e w22 ⟨rfl, hb22⟩)
  have hS3 := hS.next hb22
  clear hb22 hS
  refine hK.out _ _ hS3 (fun hS => ?_)
  clear hK K hS3
  refine wpAnyH_take (i := 18) (v := ?_) rfl (by kernel_rfl) (by kernel_rfl) (by kernel_rfl) (fun _ _ _ h => h) (Yields.yieldsIf (Or.inl ⟨by kernel_rfl, ?_⟩)) hS ?_
  rotate_left
  · first | (intro w; go_simp; done) | (intro w; go_simp; with_reducible rfl)
  refine wpAnyH_take (i := 19) (v := ?_) rfl (by kernel_rfl) (by kernel_rfl) (by kernel_rfl) (fun _ _ _ h => h) (Yields.yieldsIf (Or.inl ⟨by kernel_rfl, ?_⟩)) hS ?_
  rotate_left
  · first | (intro w; go_simp; done) | (intro w; go_simp; with_reducible rfl)
  refine wpAnyH_take (i := 20) (v := ?_) rfl (by kernel_rfl) (by kernel_rfl) (by kernel_rfl) (fun _ _ _ h => h) (Yields.yieldsIf (Or.inl ⟨by kernel_rfl, ?_⟩)) hS ?_
  rotate_left
  · first | (intro w; go_simp; done) | (intro w; go_simp; with_reducible rfl)
  refine wpAnyH_take (i := 21) (v := ?_) rfl (by kernel_rfl) (by kernel_rfl) (by kernel_rfl) (fun _ _ _ h => h) (Or.inl ⟨by kernel_rfl, fun W hW => ?_⟩) hS ?_
  rotate_left
  · have f := hW.at0
    simp only [List.mem_cons, List.not_mem_nil, or_false, forall_eq_or_imp, forall_eq] at f
    obtain ⟨⟨p0, q0, _⟩, ⟨p1, q1, _⟩, ⟨p2, q2, _⟩, p3, q3, _⟩ := f
    first | (go_simp; done) | (go_simp; with_reducible rfl)
  refine wpAnyH_take (i := 22) (v := ?_) rfl (by kernel_rfl) (by kernel_rfl) (by kernel_rfl) (fun _ _ _ h => h) (Or.inl ⟨by kernel_rfl, fun W hW => ?_⟩) hS ?_
  rotate_left
  · have f := hW.at0
    simp only [List.mem_cons, List.not_mem_nil, or_false, forall_eq_or_imp, forall_eq] at f
    obtain ⟨⟨p0, q0, _⟩, ⟨p1, q1, _⟩, ⟨p2, q2, _⟩, p3, q3, _⟩ := f
    first | (go_simp; done) | (go_simp; with_reducible rfl)
  refine wpAnyH_take (i := 24) (v := ?_) rfl (by kernel_rfl) (by kernel_rfl) (by kernel_rfl) (fun _ _ _ h => h) (Or.inl ⟨by kernel_rfl, fun W hW => ?_⟩) hS ?_
  rotate_left
  · have f := hW.at0
    simp only [List.mem_cons, List.not_mem_nil, or_false, forall_eq_or_imp, forall_eq] at f
    obtain ⟨⟨p0, q0, _⟩, ⟨p1, q1, _⟩, ⟨p2, q2, _⟩, p3, q3, _⟩ := f
    first | (go_simp; done) | (go_simp; with_reducible rfl)
  refine wpAnyH_take (i := 25) (v := ?_) rfl (by kernel_rfl) (by kernel_rfl) (by kernel_rfl) (fun _ _ _ h => h) (Or.inl ⟨by kernel_rfl, fun W hW => ?_⟩) hS ?_
  rotate_left
  · have f := hW.at0
    simp only [List.mem_cons, List.not_mem_nil, or_false, forall_eq_or_imp, forall_eq] at f
    obtain ⟨⟨p0, q0, _⟩, ⟨p1, q1, _⟩, ⟨p2, q2, _⟩, p3, q3, _⟩ := f
    first | (go_simp; done) | (go_simp; with_reducible rfl)
  refine wpAnyH_ready (rs := [23]) (by kernel_rfl) (by simp) ?_
  refine AllReadyH.cons rfl (fun K hK => ?_) AllReadyH.nil
  go_simp
  go_wp2_with (go_at_call 24; refine (same_arg (HA.out.up hS.bel) (HB.out.up hS.bel)).mono ?_; rintro e w23 ⟨rfl, hb23⟩)
  have hS3 := hS.next hb23
  clear hb23 hS
  refine hK.out _ _ hS3 (fun hS => ?_)
  clear hK K hS3
  refine wpAnyH_ready (rs := [26]) (by kernel_rfl) (by simp) ?_
  refine AllReadyH.cons rfl (fun K hK => ?_) AllReadyH.nil
  go_simp
  go_wp2_with (go_at_call 25; refine (rsame_arg (HA.out.up hS.bel) (HB.out.up hS.bel)).mono ?_; rintro e w24 ⟨rfl, hb24⟩)
  have hS3 := hS.next hb24
  clear hb24 hS
  refine hK.out _ _ hS3 (fun hS => ?_)
  clear hK K hS3
  refine wpAnyH_take (i := 27) (v := ?_) rfl (by kernel_rfl) (by kernel_rfl) (by kernel_rfl) (fun _ _ _ h => h) (Yields.yieldsIf (Or.inl ⟨by kernel_rfl, ?_⟩)) hS ?_
  rotate_left
  · first | (intro w; go_simp; done) | (intro w; go_simp; with_reducible rfl)
  refine wpAnyH_take (i := 28) (v := ?_) rfl (by kernel_rfl) (by kernel_rfl) (by kernel_rfl) (fun _ _ _ h => h) (Yields.yieldsIf (Or.inl ⟨by kernel_rfl, ?_⟩)) hS ?_
  rotate_left
  · first | (intro w; go_simp; done) | (intro w; go_simp; with_reducible rfl)
  refine wpAnyH_take (i := 29) (v := ?_) rfl (by kernel_rfl) (by kernel_rfl) (by kernel_rfl) (fun _ _ _ h => h) (Yields.yieldsIf (Or.inl ⟨by kernel_rfl, ?_⟩)) hS ?_
  rotate_left
  · first | (intro w; go_simp; done) | (intro w; go_simp; with_reducible rfl)
  refine wpAnyH_done (by kernel_rfl) ?_ _
  have HBE := Lib.hid hS.bel
  clear hS
  go_wp2
  go_ret
  exact ⟨ret_bool (by simp), HBE.out⟩
end Go.Proofs.Ytkpefelakhbkhaa.I
