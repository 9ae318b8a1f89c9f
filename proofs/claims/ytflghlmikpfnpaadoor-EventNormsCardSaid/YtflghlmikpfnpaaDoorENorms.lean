/-
  EventNorms: the walk of the law.
-/
import Derived.Test.YtflghlmikpfnpaaDoorEThree
import Derived.Test.YtflghlmikpfnpaaDoorERops
namespace Go.Proofs.YtflghlmikpfnpaaDoor.E
open Go.RowKit

set_option maxRecDepth 100000 in
set_option maxHeartbeats 6400000 in
theorem norms_walk (TA : Option Tr) (a : Value) (w : World) (htab : Tab w) (ha : Arg w TA a) : Calls Tryd.prog 3 #[a] w fun e w' => e = .returned (.bool true) ∧ Below w.heap.size w w' := by
  obtain ⟨oa, Aa, na, ca, rfl⟩ := ha.form
  have HA := Lib.hid ha
  have HTB := Lib.hid htab
  have HX0 := Lib.hid ((XS.begin w).boxed (.int .i64 oa) (.slice Aa na ca) 24)
  simp only [List.nil_append] at HX0
  clear htab ha
  unfold tv
  go_enter Tryd.func3, Tryd.ntmps3
  go_wp2_with fail
  refine (shown_any _ (HTB.out.up HX0.out.bel)).mono ?_
  rintro e w1 ⟨rfl, hb1⟩
  have HX1 := Lib.hid (HX0.out.next hb1)
  clear hb1 HX0
  have f := HX1.out.at0
  simp only [List.mem_cons, List.not_mem_nil, or_false, forall_eq_or_imp, forall_eq] at f
  obtain ⟨p0, p1⟩ := f
  have hcall := norm_arg (HA.out.up HX1.out.bel)
  obtain ⟨rx, EX0⟩ : ∃ r, normR TA = r := ⟨_, rfl⟩
  rw [EX0] at hcall
  obtain ⟨tx, zx⟩ := rx
  have EX := Lib.hid EX0
  clear EX0
  unfold tv at hcall
  go_wp2_with fail
  refine hcall.mono ?_
  rintro e w2 ⟨vx, rfl, hTx, hb2⟩
  obtain ⟨Ax, nx, cx, rfl⟩ := hTx.form
  simp only at hTx
  obtain ⟨ox, hox⟩ : ∃ o, tx.N = o := ⟨_, rfl⟩
  rw [hox] at hTx ⊢
  clear hox
  have hXX := HX1.out.next hb2
  have HX2 := Lib.hid (hXX.boxed (.int .i64 ox) (.slice Ax nx cx) 24)
  simp only [List.nil_append, List.cons_append] at HX2
  have hbx : Below w2.heap.size w2 (w2.alloc (.cells #[.int .i64 ox, .slice Ax nx cx] 24)) := (Below.refl _ w2).alloc (Nat.le_refl _) _
  have hby : Below w1.heap.size w1 (w2.alloc (.cells #[.int .i64 ox, .slice Ax nx cx] 24)) := hb2.trans (hbx.mono hb2.size)
  have Tx2 := Lib.hid (hTx.old.up hbx)
  clear hcall hXX hbx hby hb2 hTx HX1 p0 p1
  unfold tv
  have f := HX2.out.at0
  simp only [List.mem_cons, List.not_mem_nil, or_false, forall_eq_or_imp, forall_eq] at f
  obtain ⟨p0, p1, p2, p3⟩ := f
  have hcall := rnorm_arg (HA.out.up HX2.out.bel)
  obtain ⟨ry, EY0⟩ : ∃ r, normR TA = r := ⟨_, rfl⟩
  rw [EY0] at hcall
  obtain ⟨ty, zy⟩ := ry
  have EY := Lib.hid EY0
  clear EY0
  unfold tv at hcall
  go_wp2_with fail
  refine hcall.mono ?_
  rintro e w3 ⟨vy, rfl, hTy, hb3⟩
  obtain ⟨Ay, ny, cy, rfl⟩ := hTy.form
  simp only at hTy
  obtain ⟨oy, hoy⟩ : ∃ o, ty.N = o := ⟨_, rfl⟩
  rw [hoy] at hTy ⊢
  clear hoy
  have hXX := HX2.out.next hb3
  have HX3 := Lib.hid (hXX.boxed (.int .i64 oy) (.slice Ay ny cy) 24)
  simp only [List.nil_append, List.cons_append] at HX3
  have hbx : Below w3.heap.size w3 (w3.alloc (.cells #[.int .i64 oy, .slice Ay ny cy] 24)) := (Below.refl _ w3).alloc (Nat.le_refl _) _
  have hby : Below (w2.alloc (.cells #[.int .i64 ox, .slice Ax nx cx] 24)).heap.size (w2.alloc (.cells #[.int .i64 ox, .slice Ax nx cx] 24)) (w3.alloc (.cells #[.int .i64 oy, .slice Ay ny cy] 24)) := hb3.trans (hbx.mono hb3.size)
  have Tx3 := Lib.hid (Tx2.out.up hby)
  clear Tx2
  have Ty3 := Lib.hid (hTy.old.up hbx)
  clear hcall hXX hbx hby hb3 hTy HX2 p0 p1 p2 p3
  unfold tv
  have f := HX3.out.at0
  simp only [List.mem_cons, List.not_mem_nil, or_false, forall_eq_or_imp, forall_eq] at f
  obtain ⟨p0, p1, p2, p3, p4, p5⟩ := f
  have hxy : (tx, zx) = (ty, zy) := by rw [← EX.out, ← EY.out]
  injection hxy with e1 e2
  subst e1
  subst e2
  clear EX EY
  obtain ⟨l0, m0, r0, hE⟩ : ∃ l m r : Int, endsR TA = .tuple #[.int .i64 l, .int .i64 m, .int .i64 r] := by cases TA <;> exact ⟨_, _, _, rfl⟩
  have HE := Lib.hid hE
  clear hE
  have hcall := ends_arg (HA.out.up HX3.out.bel)
  rw [HE.out] at hcall
  unfold tv at hcall
  go_wp2_with fail
  refine hcall.mono ?_
  rintro e w4 ⟨rfl, hb4⟩
  have HX4 := Lib.hid (HX3.out.next hb4)
  have Tx4 := Lib.hid (Tx3.out.up hb4)
  clear Tx3
  have Ty4 := Lib.hid (Ty3.out.up hb4)
  clear Ty3
  clear hcall hb4 HX3 p0 p1 p2 p3 p4 p5
  have f := HX4.out.at0
  simp only [List.mem_cons, List.not_mem_nil, or_false, forall_eq_or_imp, forall_eq] at f
  obtain ⟨p0, p1, p2, p3, p4, p5⟩ := f
  have hcall := rends_arg (HA.out.up HX4.out.bel)
  rw [HE.out] at hcall
  unfold tv at hcall
  go_wp2_with fail
  refine hcall.mono ?_
  rintro e w5 ⟨rfl, hb5⟩
  have HX5 := Lib.hid (HX4.out.next hb5)
  have Tx5 := Lib.hid (Tx4.out.up hb5)
  clear Tx4
  have Ty5 := Lib.hid (Ty4.out.up hb5)
  clear Ty4
  clear hcall hb5 HX4 p0 p1 p2 p3 p4 p5
  have f := HX5.out.at0
  simp only [List.mem_cons, List.not_mem_nil, or_false, forall_eq_or_imp, forall_eq] at f
  obtain ⟨p0, p1, p2, p3, p4, p5⟩ := f
  obtain ⟨rr, hrr⟩ : ∃ r, TA.isSome = r := ⟨_, rfl⟩
  have HRR := Lib.hid hrr
  clear hrr
  have hbD : Below w5.heap.size w5 w5.drew := (Below.refl _ _).drew
  have Dx := Lib.hid (Tx5.out.up hbD)
  clear Tx5
  have Dy := Lib.hid (Ty5.out.up hbD)
  clear Ty5
  have hXD : XS w [(w.heap.size, 0, .int .i64 oa), (w.heap.size, 1, .slice Aa na ca), (w2.heap.size, 0, .int .i64 ox), (w2.heap.size, 1, .slice Ax nx cx), (w3.heap.size, 0, .int .i64 oy), (w3.heap.size, 1, .slice Ay ny cy)] [] w5.drew ∧ Below w5.drew.heap.size w5.drew w5.drew := ⟨(HX5.out.drew).sub (fun _ h => h) (by simp), Below.refl _ _⟩
  clear hbD HX5 p0 p1 p2 p3 p4 p5
  go_wp2
  refine wp_region_held_drew (S := fun W => XS w [(w.heap.size, 0, .int .i64 oa), (w.heap.size, 1, .slice Aa na ca), (w2.heap.size, 0, .int .i64 ox), (w2.heap.size, 1, .slice Ax nx cx), (w3.heap.size, 0, .int .i64 oy), (w3.heap.size, 1, .slice Ay ny cy)] [] W ∧ Below w5.drew.heap.size w5.drew W) (by kernel_rfl) hXD (fun hS => ?_)
  clear hXD
  generalize w5.drew = wd at hS Dx Dy ⊢
  have HF : Hid (∀ W, (XS w [(w.heap.size, 0, .int .i64 oa), (w.heap.size, 1, .slice Aa na ca), (w2.heap.size, 0, .int .i64 ox), (w2.heap.size, 1, .slice Ax nx cx), (w3.heap.size, 0, .int .i64 oy), (w3.heap.size, 1, .slice Ay ny cy)] [] W ∧ Below wd.heap.size wd W) → W.cell? ⟨w.heap.size, 0, none⟩ = some (.int .i64 oa) ∧ W.cell? ⟨w.heap.size, 1, none⟩ = some (.slice Aa na ca) ∧ W.cell? ⟨w2.heap.size, 0, none⟩ = some (.int .i64 ox) ∧ W.cell? ⟨w2.heap.size, 1, none⟩ = some (.slice Ax nx cx) ∧ W.cell? ⟨w3.heap.size, 0, none⟩ = some (.int .i64 oy) ∧ W.cell? ⟨w3.heap.size, 1, none⟩ = some (.slice Ay ny cy)) := fun W hW => ⟨hW.1.get (by simp), hW.1.get (by simp), hW.1.get (by simp), hW.1.get (by simp), hW.1.get (by simp), hW.1.get (by simp)⟩
  refine wpAnyH_take (i := 0) (v := ?_) rfl (by kernel_rfl) (by kernel_rfl) (by kernel_rfl) (fun _ _ _ h => h) (Yields.yieldsIf (Or.inl ⟨by kernel_rfl, ?_⟩)) hS ?_
  rotate_left
  · first | (intro w; go_simp; done) | (intro w; go_simp; with_reducible rfl)
  refine wpAnyH_take (i := 1) (v := ?_) rfl (by kernel_rfl) (by kernel_rfl) (by kernel_rfl) (fun _ _ _ h => h) (Yields.yieldsIf (Or.inl ⟨by kernel_rfl, ?_⟩)) hS ?_
  rotate_left
  · first | (intro w; go_simp; done) | (intro w; go_simp; with_reducible rfl)
  refine wpAnyH_take (i := 2) (v := ?_) rfl (by kernel_rfl) (by kernel_rfl) (by kernel_rfl) (fun _ _ _ h => h) (Or.inl ⟨by kernel_rfl, fun W hW => ?_⟩) hS ?_
  rotate_left
  · obtain ⟨f0, f1, f2, f3, f4, f5⟩ := HF.out W hW
    first | (go_simp; done) | (go_simp; with_reducible rfl)
  refine wpAnyH_take (i := 4) (v := ?_) rfl (by kernel_rfl) (by kernel_rfl) (by kernel_rfl) (fun _ _ _ h => h) (Or.inl ⟨by kernel_rfl, fun W hW => ?_⟩) hS ?_
  rotate_left
  · obtain ⟨f0, f1, f2, f3, f4, f5⟩ := HF.out W hW
    first | (go_simp; done) | (go_simp; with_reducible rfl)
  refine wpAnyH_ready (rs := [3]) (by kernel_rfl) (by simp) ?_
  refine AllReadyH.cons rfl (fun K hK => ?_) AllReadyH.nil
  go_simp
  go_wp2_with (go_at_call 16; refine ((right_arg (HA.out.up hS.1.bel))).mono ?_; rintro e w90 ⟨rfl, hb90⟩)
  rw [HRR.out]
  have hS3 : XS w [(w.heap.size, 0, .int .i64 oa), (w.heap.size, 1, .slice Aa na ca), (w2.heap.size, 0, .int .i64 ox), (w2.heap.size, 1, .slice Ax nx cx), (w3.heap.size, 0, .int .i64 oy), (w3.heap.size, 1, .slice Ay ny cy)] [] w90 ∧ Below wd.heap.size wd w90 := ⟨hS.1.next hb90, hS.2.trans (hb90.mono hS.2.size)⟩
  clear hb90 hS
  refine hK.out _ _ hS3 (fun hS => ?_)
  clear hK K hS3
  refine wpAnyH_ready (rs := [5]) (by kernel_rfl) (by simp) ?_
  refine AllReadyH.cons rfl (fun K hK => ?_) AllReadyH.nil
  go_simp
  go_wp2_with (go_at_call 17; refine ((rright_arg (HA.out.up hS.1.bel))).mono ?_; rintro e w91 ⟨rfl, hb91⟩)
  rw [HRR.out]
  have hS3 : XS w [(w.heap.size, 0, .int .i64 oa), (w.heap.size, 1, .slice Aa na ca), (w2.heap.size, 0, .int .i64 ox), (w2.heap.size, 1, .slice Ax nx cx), (w3.heap.size, 0, .int .i64 oy), (w3.heap.size, 1, .slice Ay ny cy)] [] w91 ∧ Below wd.heap.size wd w91 := ⟨hS.1.next hb91, hS.2.trans (hb91.mono hS.2.size)⟩
  clear hb91 hS
  refine hK.out _ _ hS3 (fun hS => ?_)
  clear hK K hS3
  refine wpAnyH_take (i := 6) (v := ?_) rfl (by kernel_rfl) (by kernel_rfl) (by kernel_rfl) (fun _ _ _ h => h) (Yields.yieldsIf (Or.inl ⟨by kernel_rfl, ?_⟩)) hS ?_
  rotate_left
  · first | (intro w; go_simp; done) | (intro w; go_simp; with_reducible rfl)
  refine wpAnyH_take (i := 7) (v := ?_) rfl (by kernel_rfl) (by kernel_rfl) (by kernel_rfl) (fun _ _ _ h => h) (Yields.yieldsIf (Or.inl ⟨by kernel_rfl, ?_⟩)) hS ?_
  rotate_left
  · first | (intro w; go_simp; done) | (intro w; go_simp; with_reducible rfl)
  refine wpAnyH_take (i := 8) (v := ?_) rfl (by kernel_rfl) (by kernel_rfl) (by kernel_rfl) (fun _ _ _ h => h) (Yields.yieldsIf (Or.inl ⟨by kernel_rfl, ?_⟩)) hS ?_
  rotate_left
  · first | (intro w; go_simp; done) | (intro w; go_simp; with_reducible rfl)
  refine wpAnyH_take (i := 9) (v := ?_) rfl (by kernel_rfl) (by kernel_rfl) (by kernel_rfl) (fun _ _ _ h => h) (Or.inl ⟨by kernel_rfl, fun W hW => ?_⟩) hS ?_
  rotate_left
  · obtain ⟨f0, f1, f2, f3, f4, f5⟩ := HF.out W hW
    first | (go_simp; done) | (go_simp; with_reducible rfl)
  refine wpAnyH_take (i := 10) (v := ?_) rfl (by kernel_rfl) (by kernel_rfl) (by kernel_rfl) (fun _ _ _ h => h) (Or.inl ⟨by kernel_rfl, fun W hW => ?_⟩) hS ?_
  rotate_left
  · obtain ⟨f0, f1, f2, f3, f4, f5⟩ := HF.out W hW
    first | (go_simp; done) | (go_simp; with_reducible rfl)
  refine wpAnyH_ready (rs := [11]) (by kernel_rfl) (by simp) ?_
  refine AllReadyH.cons rfl (fun K hK => ?_) AllReadyH.nil
  go_simp
  go_wp2_with (go_at_call 18; refine ((equal_any tx tx _ _ _ _ _ (Dx.out.up hS.2) (Dy.out.up hS.2))).mono ?_; rintro e w92 ⟨rfl, hb92⟩)
  rw [eqT_refl]
  have hS3 : XS w [(w.heap.size, 0, .int .i64 oa), (w.heap.size, 1, .slice Aa na ca), (w2.heap.size, 0, .int .i64 ox), (w2.heap.size, 1, .slice Ax nx cx), (w3.heap.size, 0, .int .i64 oy), (w3.heap.size, 1, .slice Ay ny cy)] [] w92 ∧ Below wd.heap.size wd w92 := ⟨hS.1.next hb92, hS.2.trans (hb92.mono hS.2.size)⟩
  clear hb92 hS
  refine hK.out _ _ hS3 (fun hS => ?_)
  clear hK K hS3
  refine wpAnyH_take (i := 12) (v := ?_) rfl (by kernel_rfl) (by kernel_rfl) (by kernel_rfl) (fun _ _ _ h => h) (Yields.yieldsIf (Or.inl ⟨by kernel_rfl, ?_⟩)) hS ?_
  rotate_left
  · first | (intro w; go_simp; done) | (intro w; go_simp; with_reducible rfl)
  refine wpAnyH_take (i := 13) (v := ?_) rfl (by kernel_rfl) (by kernel_rfl) (by kernel_rfl) (fun _ _ _ h => h) (Yields.yieldsIf (Or.inl ⟨by kernel_rfl, ?_⟩)) hS ?_
  rotate_left
  · first | (intro w; go_simp; done) | (intro w; go_simp; with_reducible rfl)
  refine wpAnyH_take (i := 14) (v := ?_) rfl (by kernel_rfl) (by kernel_rfl) (by kernel_rfl) (fun _ _ _ h => h) (Yields.yieldsIf (Or.inl ⟨by kernel_rfl, ?_⟩)) hS ?_
  rotate_left
  · first | (intro w; go_simp; done) | (intro w; go_simp; with_reducible rfl)
  refine wpAnyH_take (i := 15) (v := ?_) rfl (by kernel_rfl) (by kernel_rfl) (by kernel_rfl) (fun _ _ _ h => h) (Yields.yieldsIf (Or.inl ⟨by kernel_rfl, ?_⟩)) hS ?_
  rotate_left
  · first | (intro w; go_simp; done) | (intro w; go_simp; with_reducible rfl)
  refine wpAnyH_take (i := 16) (v := ?_) rfl (by kernel_rfl) (by kernel_rfl) (by kernel_rfl) (fun _ _ _ h => h) (Yields.yieldsIf (Or.inl ⟨by kernel_rfl, ?_⟩)) hS ?_
  rotate_left
  · first | (intro w; go_simp; done) | (intro w; go_simp; with_reducible rfl)
  refine wpAnyH_take (i := 17) (v := ?_) rfl (by kernel_rfl) (by kernel_rfl) (by kernel_rfl) (fun _ _ _ h => h) (Yields.yieldsIf (Or.inl ⟨by kernel_rfl, ?_⟩)) hS ?_
  rotate_left
  · first | (intro w; go_simp; done) | (intro w; go_simp; with_reducible rfl)
  refine wpAnyH_take (i := 18) (v := ?_) rfl (by kernel_rfl) (by kernel_rfl) (by kernel_rfl) (fun _ _ _ h => h) (Yields.yieldsIf (Or.inl ⟨by kernel_rfl, ?_⟩)) hS ?_
  rotate_left
  · first | (intro w; go_simp; done) | (intro w; go_simp; with_reducible rfl)
  refine wpAnyH_take (i := 19) (v := ?_) rfl (by kernel_rfl) (by kernel_rfl) (by kernel_rfl) (fun _ _ _ h => h) (Yields.yieldsIf (Or.inl ⟨by kernel_rfl, ?_⟩)) hS ?_
  rotate_left
  · first | (intro w; go_simp; done) | (intro w; go_simp; with_reducible rfl)
  refine wpAnyH_take (i := 20) (v := ?_) rfl (by kernel_rfl) (by kernel_rfl) (by kernel_rfl) (fun _ _ _ h => h) (Yields.yieldsIf (Or.inl ⟨by kernel_rfl, ?_⟩)) hS ?_
  rotate_left
  · first | (intro w; go_simp; done) | (intro w; go_simp; with_reducible rfl)
  refine wpAnyH_take (i := 21) (v := ?_) rfl (by kernel_rfl) (by kernel_rfl) (by kernel_rfl) (fun _ _ _ h => h) (Yields.yieldsIf (Or.inl ⟨by kernel_rfl, ?_⟩)) hS ?_
  rotate_left
  · first | (intro w; go_simp; done) | (intro w; go_simp; with_reducible rfl)
  refine wpAnyH_take (i := 22) (v := ?_) rfl (by kernel_rfl) (by kernel_rfl) (by kernel_rfl) (fun _ _ _ h => h) (Yields.yieldsIf (Or.inl ⟨by kernel_rfl, ?_⟩)) hS ?_
  rotate_left
  · first | (intro w; go_simp; done) | (intro w; go_simp; with_reducible rfl)
  refine wpAnyH_take (i := 23) (v := ?_) rfl (by kernel_rfl) (by kernel_rfl) (by kernel_rfl) (fun _ _ _ h => h) (Yields.yieldsIf (Or.inl ⟨by kernel_rfl, ?_⟩)) hS ?_
  rotate_left
  · first | (intro w; go_simp; done) | (intro w; go_simp; with_reducible rfl)
  refine wpAnyH_take (i := 24) (v := ?_) rfl (by kernel_rfl) (by kernel_rfl) (by kernel_rfl) (fun _ _ _ h => h) (Yields.yieldsIf (Or.inl ⟨by kernel_rfl, ?_⟩)) hS ?_
  rotate_left
  · first | (intro w; go_simp; done) | (intro w; go_simp; with_reducible rfl)
  refine wpAnyH_take (i := 25) (v := ?_) rfl (by kernel_rfl) (by kernel_rfl) (by kernel_rfl) (fun _ _ _ h => h) (Yields.yieldsIf (Or.inl ⟨by kernel_rfl, ?_⟩)) hS ?_
  rotate_left
  · first | (intro w; go_simp; done) | (intro w; go_simp; with_reducible rfl)
  refine wpAnyH_take (i := 26) (v := ?_) rfl (by kernel_rfl) (by kernel_rfl) (by kernel_rfl) (fun _ _ _ h => h) (Yields.yieldsIf (Or.inl ⟨by kernel_rfl, ?_⟩)) hS ?_
  rotate_left
  · first | (intro w; go_simp; done) | (intro w; go_simp; with_reducible rfl)
  refine wpAnyH_take (i := 27) (v := ?_) rfl (by kernel_rfl) (by kernel_rfl) (by kernel_rfl) (fun _ _ _ h => h) (Yields.yieldsIf (Or.inl ⟨by kernel_rfl, ?_⟩)) hS ?_
  rotate_left
  · first | (intro w; go_simp; done) | (intro w; go_simp; with_reducible rfl)
  refine wpAnyH_take (i := 28) (v := ?_) rfl (by kernel_rfl) (by kernel_rfl) (by kernel_rfl) (fun _ _ _ h => h) (Yields.yieldsIf (Or.inl ⟨by kernel_rfl, ?_⟩)) hS ?_
  rotate_left
  · first | (intro w; go_simp; done) | (intro w; go_simp; with_reducible rfl)
  refine wpAnyH_take (i := 29) (v := ?_) rfl (by kernel_rfl) (by kernel_rfl) (by kernel_rfl) (fun _ _ _ h => h) (Yields.yieldsIf (Or.inl ⟨by kernel_rfl, ?_⟩)) hS ?_
  rotate_left
  · first | (intro w; go_simp; done) | (intro w; go_simp; with_reducible rfl)
  refine wpAnyH_take (i := 30) (v := ?_) rfl (by kernel_rfl) (by kernel_rfl) (by kernel_rfl) (fun _ _ _ h => h) (Yields.yieldsIf (Or.inl ⟨by kernel_rfl, ?_⟩)) hS ?_
  rotate_left
  · first | (intro w; go_simp; done) | (intro w; go_simp; with_reducible rfl)
  refine wpAnyH_take (i := 31) (v := ?_) rfl (by kernel_rfl) (by kernel_rfl) (by kernel_rfl) (fun _ _ _ h => h) (Yields.yieldsIf (Or.inl ⟨by kernel_rfl, ?_⟩)) hS ?_
  rotate_left
  · first | (intro w; go_simp; done) | (intro w; go_simp; with_reducible rfl)
  refine wpAnyH_take (i := 32) (v := ?_) rfl (by kernel_rfl) (by kernel_rfl) (by kernel_rfl) (fun _ _ _ h => h) (Yields.yieldsIf (Or.inl ⟨by kernel_rfl, ?_⟩)) hS ?_
  rotate_left
  · first | (intro w; go_simp; done) | (intro w; go_simp; with_reducible rfl)
  refine wpAnyH_take (i := 33) (v := ?_) rfl (by kernel_rfl) (by kernel_rfl) (by kernel_rfl) (fun _ _ _ h => h) (Yields.yieldsIf (Or.inl ⟨by kernel_rfl, ?_⟩)) hS ?_
  rotate_left
  · first | (intro w; go_simp; done) | (intro w; go_simp; with_reducible rfl)
  try go_simp
  refine wpAnyH_done (by kernel_rfl) ?_ _
  clear HF
  go_wp2
  go_ret
  exact ⟨rfl, hS.1.bel⟩
end Go.Proofs.YtflghlmikpfnpaaDoor.E
