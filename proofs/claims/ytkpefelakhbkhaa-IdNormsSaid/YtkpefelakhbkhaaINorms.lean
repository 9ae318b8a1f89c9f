/-
  IdNorms: the walk of the law.
-/
import Derived.Test.YtkpefelakhbkhaaIRSplit
import Derived.Test.YtkpefelakhbkhaaIShown
namespace Go.Proofs.Ytkpefelakhbkhaa.I
open Go.RowKit

set_option maxRecDepth 100000 in
set_option maxHeartbeats 6400000 in
theorem norms_walk (T : Option Tr) (v : Value) (w : World) (hv : Arg w T v) : Calls Try.prog 3 #[v] w fun e w' => e = .returned (.bool true) ∧ Below w.heap.size w w' := by
  obtain ⟨o, A, n, c, rfl⟩ := hv.form
  have HX := Lib.hid ((XS.begin w).boxed (.bool o) (.slice A n c))
  simp only [List.nil_append] at HX
  have HV := Lib.hid hv
  clear hv
  unfold tv
  go_enter Try.func3, Try.ntmps3
  go_wp2_with fail
  refine (shown_any _).mono ?_
  rintro e w1 ⟨rfl, hb1⟩
  have HX1 := Lib.hid (HX.out.next hb1)
  clear hb1 HX
  have f := HX1.out.at0
  simp only [List.mem_cons, List.not_mem_nil, or_false, forall_eq] at f
  obtain ⟨p0, q0, _⟩ := f
  have hcall := norm_arg (HV.out.up HX1.out.bel)
  unfold tv at hcall
  go_wp2_with fail
  refine hcall.mono ?_
  rintro e w11 ⟨v11, rfl, h11, hb11⟩
  obtain ⟨o11, A11, n11, c11, rfl⟩ := h11.form
  have HX2 := Lib.hid ((HX1.out.next hb11).boxed (.bool o11) (.slice A11 n11 c11))
  simp only [List.nil_append, List.cons_append] at HX2
  have hd11 : Below w11.heap.size w11 (w11.alloc (.cells #[.bool o11, .slice A11 n11 c11] 24)) := (Below.refl _ w11).alloc (Nat.le_refl _) _
  have T11 := Lib.hid (h11.up hd11)
  clear hcall HX1 p0 q0 h11 hb11 hd11
  unfold tv
  have f := HX2.out.at0
  simp only [List.mem_cons, List.not_mem_nil, or_false, forall_eq_or_imp, forall_eq] at f
  obtain ⟨⟨p0, q0, _⟩, p1, q1, _⟩ := f
  have hcall := rnorm_arg (HV.out.up HX2.out.bel)
  unfold tv at hcall
  go_wp2_with fail
  refine hcall.mono ?_
  rintro e w12 ⟨v12, rfl, h12, hb12⟩
  obtain ⟨o12, A12, n12, c12, rfl⟩ := h12.form
  have HX3 := Lib.hid ((HX2.out.next hb12).boxed (.bool o12) (.slice A12 n12 c12))
  simp only [List.nil_append, List.cons_append] at HX3
  have hd12 : Below w12.heap.size w12 (w12.alloc (.cells #[.bool o12, .slice A12 n12 c12] 24)) := (Below.refl _ w12).alloc (Nat.le_refl _) _
  have T12 := Lib.hid (h12.up hd12)
  have KT11 := Lib.hid ((T11.out.up hb12).up hd12)
  clear T11
  have T11 := Lib.hid KT11.out
  clear KT11
  clear hcall HX2 p0 q0 p1 q1 h12 hb12 hd12
  unfold tv
  have f := HX3.out.at0
  simp only [List.mem_cons, List.not_mem_nil, or_false, forall_eq_or_imp, forall_eq] at f
  obtain ⟨⟨p0, q0, _⟩, ⟨p1, q1, _⟩, p2, q2, _⟩ := f
  have hcall := split_arg (HV.out.up HX3.out.bel)
  unfold tv at hcall
  go_wp2_with fail
  refine hcall.mono ?_
  rintro e w13 ⟨v13, u13, rfl, h13, g13, hb13⟩
  obtain ⟨o13, A13, n13, c13, rfl⟩ := h13.form
  obtain ⟨p13, B13, m13, d13, rfl⟩ := g13.form
  have HX4 := Lib.hid (((HX3.out.next hb13).boxed (.bool o13) (.slice A13 n13 c13)).boxed (.bool p13) (.slice B13 m13 d13))
  simp only [List.nil_append, List.cons_append, World.size_alloc] at HX4
  have hd13 : Below w13.heap.size w13 ((w13.alloc (.cells #[.bool o13, .slice A13 n13 c13] 24)).alloc (.cells #[.bool p13, .slice B13 m13 d13] 24)) := ((Below.refl _ w13).alloc (Nat.le_refl _) _).alloc (by simp) _
  have T13 := Lib.hid (h13.up hd13)
  have S13 := Lib.hid (g13.up hd13)
  have KT11 := Lib.hid ((T11.out.up hb13).up hd13)
  have KT12 := Lib.hid ((T12.out.up hb13).up hd13)
  clear T11 T12
  have T11 := Lib.hid KT11.out
  have T12 := Lib.hid KT12.out
  clear KT11 KT12
  clear hcall HX3 p0 q0 p1 q1 p2 q2 h13 g13 hb13 hd13
  unfold tv
  have f := HX4.out.at0
  simp only [List.mem_cons, List.not_mem_nil, or_false, forall_eq_or_imp, forall_eq] at f
  obtain ⟨⟨p0, q0, _⟩, ⟨p1, q1, _⟩, ⟨p2, q2, _⟩, ⟨p3, q3, _⟩, p4, q4, _⟩ := f
  have hcall := rsplit_arg (HV.out.up HX4.out.bel)
  unfold tv at hcall
  go_wp2_with fail
  refine hcall.mono ?_
  rintro e w14 ⟨v14, u14, rfl, h14, g14, hb14⟩
  obtain ⟨o14, A14, n14, c14, rfl⟩ := h14.form
  obtain ⟨p14, B14, m14, d14, rfl⟩ := g14.form
  have HX5 := Lib.hid (((HX4.out.next hb14).boxed (.bool o14) (.slice A14 n14 c14)).boxed (.bool p14) (.slice B14 m14 d14))
  simp only [List.nil_append, List.cons_append, World.size_alloc] at HX5
  have hd14 : Below w14.heap.size w14 ((w14.alloc (.cells #[.bool o14, .slice A14 n14 c14] 24)).alloc (.cells #[.bool p14, .slice B14 m14 d14] 24)) := ((Below.refl _ w14).alloc (Nat.le_refl _) _).alloc (by simp) _
  have T14 := Lib.hid (h14.up hd14)
  have S14 := Lib.hid (g14.up hd14)
  have KT11 := Lib.hid ((T11.out.up hb14).up hd14)
  have KT12 := Lib.hid ((T12.out.up hb14).up hd14)
  have KT13 := Lib.hid ((T13.out.up hb14).up hd14)
  have KS13 := Lib.hid ((S13.out.up hb14).up hd14)
  clear T11 T12 T13 S13
  have T11 := Lib.hid KT11.out
  have T12 := Lib.hid KT12.out
  have T13 := Lib.hid KT13.out
  have S13 := Lib.hid KS13.out
  clear KT11 KT12 KT13 KS13
  clear hcall HX4 p0 q0 p1 q1 p2 q2 p3 q3 p4 q4 h14 g14 hb14 hd14
  unfold tv
  obtain ⟨r, hr⟩ : ∃ r, normR T = r := ⟨_, rfl⟩
  obtain ⟨q, hq⟩ : ∃ q, splitR T = q := ⟨_, rfl⟩
  rw [hr] at T11 T12 ⊢
  rw [hq] at T13 S13 T14 S14 ⊢
  obtain ⟨r1, z1⟩ := r
  obtain ⟨⟨q1, q2⟩, z2⟩ := q
  simp only at T11 T12 T13 S13 T14 S14
  clear hr hq
  have hbD : Below ((w14.alloc (.cells #[.bool o14, .slice A14 n14 c14] 24)).alloc (.cells #[.bool p14, .slice B14 m14 d14] 24)).heap.size ((w14.alloc (.cells #[.bool o14, .slice A14 n14 c14] 24)).alloc (.cells #[.bool p14, .slice B14 m14 d14] 24)) ((w14.alloc (.cells #[.bool o14, .slice A14 n14 c14] 24)).alloc (.cells #[.bool p14, .slice B14 m14 d14] 24)).drew := (Below.refl _ _).drew
  have GT11 := Lib.hid (T11.out.up hbD)
  have GT12 := Lib.hid (T12.out.up hbD)
  have GT13 := Lib.hid (T13.out.up hbD)
  have GS13 := Lib.hid (S13.out.up hbD)
  have GT14 := Lib.hid (T14.out.up hbD)
  have GS14 := Lib.hid (S14.out.up hbD)
  have hXD := HX5.out.drew
  clear T11 T12 T13 S13 T14 S14 HX5 hbD
  go_wp2
  refine wp_region_held_drew (S := fun W => XS w [(w.heap.size, .bool o, .slice A n c), (w11.heap.size, .bool o11, .slice A11 n11 c11), (w12.heap.size, .bool o12, .slice A12 n12 c12), (w13.heap.size, .bool o13, .slice A13 n13 c13), (w13.heap.size + 1, .bool p13, .slice B13 m13 d13), (w14.heap.size, .bool o14, .slice A14 n14 c14), (w14.heap.size + 1, .bool p14, .slice B14 m14 d14)] [] W) (by kernel_rfl) hXD (fun hS => ?_)
  clear hXD
  generalize ((w14.alloc (.cells #[.bool o14, .slice A14 n14 c14] 24)).alloc (.cells #[.bool p14, .slice B14 m14 d14] 24)).drew = wd at hS GT11 GT12 GT13 GS13 GT14 GS14 ⊢
  refine wpAnyH_take (i := 0) (v := ?_) rfl (by kernel_rfl) (by kernel_rfl) (by kernel_rfl) (fun _ _ _ h => h) (Yields.yieldsIf (Or.inl ⟨by kernel_rfl, ?_⟩)) hS ?_
  rotate_left
  · first | (intro w; go_simp; done) | (intro w; go_simp; with_reducible rfl)
  refine wpAnyH_take (i := 1) (v := ?_) rfl (by kernel_rfl) (by kernel_rfl) (by kernel_rfl) (fun _ _ _ h => h) (Yields.yieldsIf (Or.inl ⟨by kernel_rfl, ?_⟩)) hS ?_
  rotate_left
  · first | (intro w; go_simp; done) | (intro w; go_simp; with_reducible rfl)
  refine wpAnyH_take (i := 2) (v := ?_) rfl (by kernel_rfl) (by kernel_rfl) (by kernel_rfl) (fun _ _ _ h => h) (Or.inl ⟨by kernel_rfl, fun W hW => ?_⟩) hS ?_
  rotate_left
  · have f := hW.at0
    simp only [List.mem_cons, List.not_mem_nil, or_false, forall_eq_or_imp, forall_eq] at f
    obtain ⟨⟨p0, q0, _⟩, ⟨p1, q1, _⟩, ⟨p2, q2, _⟩, ⟨p3, q3, _⟩, ⟨p4, q4, _⟩, ⟨p5, q5, _⟩, p6, q6, _⟩ := f
    first | (go_simp; done) | (go_simp; with_reducible rfl)
  refine wpAnyH_take (i := 4) (v := ?_) rfl (by kernel_rfl) (by kernel_rfl) (by kernel_rfl) (fun _ _ _ h => h) (Or.inl ⟨by kernel_rfl, fun W hW => ?_⟩) hS ?_
  rotate_left
  · have f := hW.at0
    simp only [List.mem_cons, List.not_mem_nil, or_false, forall_eq_or_imp, forall_eq] at f
    obtain ⟨⟨p0, q0, _⟩, ⟨p1, q1, _⟩, ⟨p2, q2, _⟩, ⟨p3, q3, _⟩, ⟨p4, q4, _⟩, ⟨p5, q5, _⟩, p6, q6, _⟩ := f
    first | (go_simp; done) | (go_simp; with_reducible rfl)
  refine wpAnyH_ready (rs := [3]) (by kernel_rfl) (by simp) ?_
  refine AllReadyH.cons rfl (fun K hK => ?_) AllReadyH.nil
  go_simp
  go_wp2_with (go_at_call 17; refine (right_arg (HV.out.up hS.bel)).mono ?_; rintro e w20 ⟨rfl, hb20⟩)
  have hS3 := hS.next hb20
  have KGT11 := Lib.hid (GT11.out.up hb20)
  have KGT12 := Lib.hid (GT12.out.up hb20)
  have KGT13 := Lib.hid (GT13.out.up hb20)
  have KGS13 := Lib.hid (GS13.out.up hb20)
  have KGT14 := Lib.hid (GT14.out.up hb20)
  have KGS14 := Lib.hid (GS14.out.up hb20)
  clear GT11 GT12 GT13 GS13 GT14 GS14 hb20 hS
  have GT11 := Lib.hid KGT11.out
  have GT12 := Lib.hid KGT12.out
  have GT13 := Lib.hid KGT13.out
  have GS13 := Lib.hid KGS13.out
  have GT14 := Lib.hid KGT14.out
  have GS14 := Lib.hid KGS14.out
  clear KGT11 KGT12 KGT13 KGS13 KGT14 KGS14
  refine hK.out _ _ hS3 (fun hS => ?_)
  clear hK K hS3
  refine wpAnyH_ready (rs := [5]) (by kernel_rfl) (by simp) ?_
  refine AllReadyH.cons rfl (fun K hK => ?_) AllReadyH.nil
  go_simp
  go_wp2_with (go_at_call 18; refine (rright_arg (HV.out.up hS.bel)).mono ?_; rintro e w21 ⟨rfl, hb21⟩)
  have hS3 := hS.next hb21
  have KGT11 := Lib.hid (GT11.out.up hb21)
  have KGT12 := Lib.hid (GT12.out.up hb21)
  have KGT13 := Lib.hid (GT13.out.up hb21)
  have KGS13 := Lib.hid (GS13.out.up hb21)
  have KGT14 := Lib.hid (GT14.out.up hb21)
  have KGS14 := Lib.hid (GS14.out.up hb21)
  clear GT11 GT12 GT13 GS13 GT14 GS14 hb21 hS
  have GT11 := Lib.hid KGT11.out
  have GT12 := Lib.hid KGT12.out
  have GT13 := Lib.hid KGT13.out
  have GS13 := Lib.hid KGS13.out
  have GT14 := Lib.hid KGT14.out
  have GS14 := Lib.hid KGS14.out
  clear KGT11 KGT12 KGT13 KGS13 KGT14 KGS14
  refine hK.out _ _ hS3 (fun hS => ?_)
  clear hK K hS3
  refine wpAnyH_take (i := 6) (v := ?_) rfl (by kernel_rfl) (by kernel_rfl) (by kernel_rfl) (fun _ _ _ h => h) (Yields.yieldsIf (Or.inl ⟨by kernel_rfl, ?_⟩)) hS ?_
  rotate_left
  · first | (intro w; go_simp; done) | (intro w; go_simp; with_reducible rfl)
  refine wpAnyH_take (i := 7) (v := ?_) rfl (by kernel_rfl) (by kernel_rfl) (by kernel_rfl) (fun _ _ _ h => h) (Yields.yieldsIf (Or.inl ⟨by kernel_rfl, ?_⟩)) hS ?_
  rotate_left
  · first | (intro w; go_simp; done) | (intro w; go_simp; with_reducible rfl)
  refine wpAnyH_take (i := 8) (v := ?_) rfl (by kernel_rfl) (by kernel_rfl) (by kernel_rfl) (fun _ _ _ h => h) (Yields.yieldsIf (Or.inl ⟨by kernel_rfl, ?_⟩)) hS ?_
  rotate_left
  · first | (intro w; go_simp; done) | (intro w; go_simp; with_reducible rfl)
  refine wpAnyH_take (i := 9) (v := ?_) rfl (by kernel_rfl) (by kernel_rfl) (by kernel_rfl) (fun _ _ _ h => h) (Or.inl ⟨by kernel_rfl, fun W hW => ?_⟩) hS ?_
  rotate_left
  · have f := hW.at0
    simp only [List.mem_cons, List.not_mem_nil, or_false, forall_eq_or_imp, forall_eq] at f
    obtain ⟨⟨p0, q0, _⟩, ⟨p1, q1, _⟩, ⟨p2, q2, _⟩, ⟨p3, q3, _⟩, ⟨p4, q4, _⟩, ⟨p5, q5, _⟩, p6, q6, _⟩ := f
    first | (go_simp; done) | (go_simp; with_reducible rfl)
  refine wpAnyH_take (i := 10) (v := ?_) rfl (by kernel_rfl) (by kernel_rfl) (by kernel_rfl) (fun _ _ _ h => h) (Or.inl ⟨by kernel_rfl, fun W hW => ?_⟩) hS ?_
  rotate_left
  · have f := hW.at0
    simp only [List.mem_cons, List.not_mem_nil, or_false, forall_eq_or_imp, forall_eq] at f
    obtain ⟨⟨p0, q0, _⟩, ⟨p1, q1, _⟩, ⟨p2, q2, _⟩, ⟨p3, q3, _⟩, ⟨p4, q4, _⟩, ⟨p5, q5, _⟩, p6, q6, _⟩ := f
    first | (go_simp; done) | (go_simp; with_reducible rfl)
  refine wpAnyH_ready (rs := [11]) (by kernel_rfl) (by simp) ?_
  refine AllReadyH.cons rfl (fun K hK => ?_) AllReadyH.nil
  go_simp
  go_wp2_with (go_at_call 19; refine (equal_any _ _ _ _ _ GT11.out GT12.out).mono ?_; rintro e w22 ⟨rfl, hb22⟩)
  rw [eqT_refl]
  have hS3 := hS.next hb22
  have KGT13 := Lib.hid (GT13.out.up hb22)
  have KGS13 := Lib.hid (GS13.out.up hb22)
  have KGT14 := Lib.hid (GT14.out.up hb22)
  have KGS14 := Lib.hid (GS14.out.up hb22)
  clear GT13 GS13 GT14 GS14 GT11 GT12 hb22 hS
  have GT13 := Lib.hid KGT13.out
  have GS13 := Lib.hid KGS13.out
  have GT14 := Lib.hid KGT14.out
  have GS14 := Lib.hid KGS14.out
  clear KGT13 KGS13 KGT14 KGS14
  refine hK.out _ _ hS3 (fun hS => ?_)
  clear hK K hS3
  refine wpAnyH_take (i := 12) (v := ?_) rfl (by kernel_rfl) (by kernel_rfl) (by kernel_rfl) (fun _ _ _ h => h) (Yields.yieldsIf (Or.inl ⟨by kernel_rfl, ?_⟩)) hS ?_
  rotate_left
  · first | (intro w; go_simp; done) | (intro w; go_simp; with_reducible rfl)
  refine wpAnyH_take (i := 13) (v := ?_) rfl (by kernel_rfl) (by kernel_rfl) (by kernel_rfl) (fun _ _ _ h => h) (Yields.yieldsIf (Or.inl ⟨by kernel_rfl, ?_⟩)) hS ?_
  rotate_left
  · first | (intro w; go_simp; done) | (intro w; go_simp; with_reducible rfl)
  refine wpAnyH_take (i := 14) (v := ?_) rfl (by kernel_rfl) (by kernel_rfl) (by kernel_rfl) (fun _ _ _ h => h) (Yields.yieldsIf (Or.inl ⟨by kernel_rfl, ?_⟩)) hS ?_
  rotate_left
  · first | (intro w; go_simp; done) | (intro w; go_simp; with_reducible rfl)
  refine wpAnyH_take (i := 15) (v := ?_) rfl (by kernel_rfl) (by kernel_rfl) (by kernel_rfl) (fun _ _ _ h => h) (Yields.yieldsIf (Or.inl ⟨by kernel_rfl, ?_⟩)) hS ?_
  rotate_left
  · first | (intro w; go_simp; done) | (intro w; go_simp; with_reducible rfl)
  refine wpAnyH_take (i := 16) (v := ?_) rfl (by kernel_rfl) (by kernel_rfl) (by kernel_rfl) (fun _ _ _ h => h) (Yields.yieldsIf (Or.inl ⟨by kernel_rfl, ?_⟩)) hS ?_
  rotate_left
  · first | (intro w; go_simp; done) | (intro w; go_simp; with_reducible rfl)
  refine wpAnyH_take (i := 17) (v := ?_) rfl (by kernel_rfl) (by kernel_rfl) (by kernel_rfl) (fun _ _ _ h => h) (Yields.yieldsIf (Or.inl ⟨by kernel_rfl, ?_⟩)) hS ?_
  rotate_left
  · first | (intro w; go_simp; done) | (intro w; go_simp; with_reducible rfl)
  refine wpAnyH_take (i := 18) (v := ?_) rfl (by kernel_rfl) (by kernel_rfl) (by kernel_rfl) (fun _ _ _ h => h) (Yields.yieldsIf (Or.inl ⟨by kernel_rfl, ?_⟩)) hS ?_
  rotate_left
  · first | (intro w; go_simp; done) | (intro w; go_simp; with_reducible rfl)
  refine wpAnyH_take (i := 19) (v := ?_) rfl (by kernel_rfl) (by kernel_rfl) (by kernel_rfl) (fun _ _ _ h => h) (Or.inl ⟨by kernel_rfl, fun W hW => ?_⟩) hS ?_
  rotate_left
  · have f := hW.at0
    simp only [List.mem_cons, List.not_mem_nil, or_false, forall_eq_or_imp, forall_eq] at f
    obtain ⟨⟨p0, q0, _⟩, ⟨p1, q1, _⟩, ⟨p2, q2, _⟩, ⟨p3, q3, _⟩, ⟨p4, q4, _⟩, ⟨p5, q5, _⟩, p6, q6, _⟩ := f
    first | (go_simp; done) | (go_simp; with_reducible rfl)
  refine wpAnyH_take (i := 20) (v := ?_) rfl (by kernel_rfl) (by kernel_rfl) (by kernel_rfl) (fun _ _ _ h => h) (Or.inl ⟨by kernel_rfl, fun W hW => ?_⟩) hS ?_
  rotate_left
  · have f := hW.at0
    simp only [List.mem_cons, List.not_mem_nil, or_false, forall_eq_or_imp, forall_eq] at f
    obtain ⟨⟨p0, q0, _⟩, ⟨p1, q1, _⟩, ⟨p2, q2, _⟩, ⟨p3, q3, _⟩, ⟨p4, q4, _⟩, ⟨p5, q5, _⟩, p6, q6, _⟩ := f
    first | (go_simp; done) | (go_simp; with_reducible rfl)
  refine wpAnyH_ready (rs := [21]) (by kernel_rfl) (by simp) ?_
  refine AllReadyH.cons rfl (fun K hK => ?_) AllReadyH.nil
  go_simp
  go_wp2_with (go_at_call 19; refine (equal_any _ _ _ _ _ GT13.out GT14.out).mono ?_; rintro e w23 ⟨rfl, hb23⟩)
  rw [eqT_refl]
  have hS3 := hS.next hb23
  have KGS13 := Lib.hid (GS13.out.up hb23)
  have KGS14 := Lib.hid (GS14.out.up hb23)
  clear GS13 GS14 GT13 GT14 hb23 hS
  have GS13 := Lib.hid KGS13.out
  have GS14 := Lib.hid KGS14.out
  clear KGS13 KGS14
  refine hK.out _ _ hS3 (fun hS => ?_)
  clear hK K hS3
  refine wpAnyH_take (i := 22) (v := ?_) rfl (by kernel_rfl) (by kernel_rfl) (by kernel_rfl) (fun _ _ _ h => h) (Yields.yieldsIf (Or.inl ⟨by kernel_rfl, ?_⟩)) hS ?_
  rotate_left
  · first | (intro w; go_simp; done) | (intro w; go_simp; with_reducible rfl)
  refine wpAnyH_take (i := 23) (v := ?_) rfl (by kernel_rfl) (by kernel_rfl) (by kernel_rfl) (fun _ _ _ h => h) (Yields.yieldsIf (Or.inl ⟨by kernel_rfl, ?_⟩)) hS ?_
  rotate_left
  · first | (intro w; go_simp; done) | (intro w; go_simp; with_reducible rfl)
  refine wpAnyH_take (i := 24) (v := ?_) rfl (by kernel_rfl) (by kernel_rfl) (by kernel_rfl) (fun _ _ _ h => h) (Or.inl ⟨by kernel_rfl, fun W hW => ?_⟩) hS ?_
  rotate_left
  · have f := hW.at0
    simp only [List.mem_cons, List.not_mem_nil, or_false, forall_eq_or_imp, forall_eq] at f
    obtain ⟨⟨p0, q0, _⟩, ⟨p1, q1, _⟩, ⟨p2, q2, _⟩, ⟨p3, q3, _⟩, ⟨p4, q4, _⟩, ⟨p5, q5, _⟩, p6, q6, _⟩ := f
    first | (go_simp; done) | (go_simp; with_reducible rfl)
  refine wpAnyH_take (i := 25) (v := ?_) rfl (by kernel_rfl) (by kernel_rfl) (by kernel_rfl) (fun _ _ _ h => h) (Or.inl ⟨by kernel_rfl, fun W hW => ?_⟩) hS ?_
  rotate_left
  · have f := hW.at0
    simp only [List.mem_cons, List.not_mem_nil, or_false, forall_eq_or_imp, forall_eq] at f
    obtain ⟨⟨p0, q0, _⟩, ⟨p1, q1, _⟩, ⟨p2, q2, _⟩, ⟨p3, q3, _⟩, ⟨p4, q4, _⟩, ⟨p5, q5, _⟩, p6, q6, _⟩ := f
    first | (go_simp; done) | (go_simp; with_reducible rfl)
  refine wpAnyH_ready (rs := [26]) (by kernel_rfl) (by simp) ?_
  refine AllReadyH.cons rfl (fun K hK => ?_) AllReadyH.nil
  go_simp
  go_wp2_with (go_at_call 19; refine (equal_any _ _ _ _ _ GS13.out GS14.out).mono ?_; rintro e w24 ⟨rfl, hb24⟩)
  rw [eqT_refl]
  have hS3 := hS.next hb24
  clear GS13 GS14 hb24 hS
  refine hK.out _ _ hS3 (fun hS => ?_)
  clear hK K hS3
  refine wpAnyH_take (i := 27) (v := ?_) rfl (by kernel_rfl) (by kernel_rfl) (by kernel_rfl) (fun _ _ _ h => h) (Yields.yieldsIf (Or.inl ⟨by kernel_rfl, ?_⟩)) hS ?_
  rotate_left
  · first | (intro w; go_simp; done) | (intro w; go_simp; with_reducible rfl)
  refine wpAnyH_take (i := 28) (v := ?_) rfl (by kernel_rfl) (by kernel_rfl) (by kernel_rfl) (fun _ _ _ h => h) (Yields.yieldsIf (Or.inl ⟨by kernel_rfl, ?_⟩)) hS ?_
  rotate_left
  · first | (intro w; go_simp; done) | (intro w; go_simp; with_reducible rfl)
  refine wpAnyH_take (i := 29) (v := ?_) rfl (by kernel_rfl) (by kernel_rfl) (by kernel_rfl) (fun _ _ _ h => h) (Yields.yieldsIf (Or.inl ⟨by kernel_rfl, ?_⟩)) hS ?_
  rotate_left
  · first | (intro w; go_simp; done) | (intro w; go_simp; with_reducible rfl)
  refine wpAnyH_take (i := 30) (v := ?_) rfl (by kernel_rfl) (by kernel_rfl) (by kernel_rfl) (fun _ _ _ h => h) (Yields.yieldsIf (Or.inl ⟨by kernel_rfl, ?_⟩)) hS ?_
  rotate_left
  · first | (intro w; go_simp; done) | (intro w; go_simp; with_reducible rfl)
  refine wpAnyH_take (i := 31) (v := ?_) rfl (by kernel_rfl) (by kernel_rfl) (by kernel_rfl) (fun _ _ _ h => h) (Yields.yieldsIf (Or.inl ⟨by kernel_rfl, ?_⟩)) hS ?_
  rotate_left
  · first | (intro w; go_simp; done) | (intro w; go_simp; with_reducible rfl)
  refine wpAnyH_take (i := 32) (v := ?_) rfl (by kernel_rfl) (by kernel_rfl) (by kernel_rfl) (fun _ _ _ h => h) (Yields.yieldsIf (Or.inl ⟨by kernel_rfl, ?_⟩)) hS ?_
  rotate_left
  · first | (intro w; go_simp; done) | (intro w; go_simp; with_reducible rfl)
  refine wpAnyH_take (i := 33) (v := ?_) rfl (by kernel_rfl) (by kernel_rfl) (by kernel_rfl) (fun _ _ _ h => h) (Yields.yieldsIf (Or.inl ⟨by kernel_rfl, ?_⟩)) hS ?_
  rotate_left
  · first | (intro w; go_simp; done) | (intro w; go_simp; with_reducible rfl)
  refine wpAnyH_done (by kernel_rfl) ?_ _
  have HBE := Lib.hid hS.bel
  clear hS
  go_wp2
  go_ret
  exact ⟨ret_bool (by simp), HBE.out⟩
end Go.Proofs.Ytkpefelakhbkhaa.I
