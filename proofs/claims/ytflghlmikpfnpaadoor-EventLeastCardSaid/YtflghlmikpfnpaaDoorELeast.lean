/-
  EventLeast: the walk of the law.
-/
import Derived.Test.YtflghlmikpfnpaaDoorEThree
namespace Go.Proofs.YtflghlmikpfnpaaDoor.E
open Go.RowKit

theorem least_math {A B C : Option Tr} {j : Tr} (h : joinR A B = (j, 0)) (hc : C.isSome = true) : leqO A (fit j) = true ∧ leqO B (fit j) = true ∧ leqO (fit j) (fit j) = true ∧ leqO (fit j) C = (leqO A C && leqO B C) := by
  obtain ⟨a, b, rfl, rfl, rfl, oj⟩ := joinR_zero h
  obtain ⟨c, rfl⟩ := Option.isSome_iff_exists.1 hc
  rw [fit_of oj]
  simp only [leqO]
  refine ⟨(leqT_iff _ _ _ _).2 fun f => by rw [den_join]; omega, (leqT_iff _ _ _ _).2 fun f => by rw [den_join]; omega, (leqT_iff _ _ _ _).2 fun f => by omega, ?_⟩
  rw [Bool.eq_iff_iff, Bool.and_eq_true_iff, leqT_iff, leqT_iff, leqT_iff]
  constructor
  · intro h; exact ⟨fun f => by have := h f; rw [den_join] at this; omega, fun f => by have := h f; rw [den_join] at this; omega⟩
  · rintro ⟨h1, h2⟩ f; have := h1 f; have := h2 f; rw [den_join]; omega

set_option maxRecDepth 100000 in
set_option maxHeartbeats 6400000 in
theorem least_walk (TA : Option Tr) (a : Value) (TB : Option Tr) (b : Value) (TC : Option Tr) (c : Value) (w : World) (htab : Tab w) (ha : Arg w TA a) (hb : Arg w TB b) (hc : Arg w TC c) : Calls Tryd.prog 7 #[a, b, c] w fun e w' => e = .returned (.bool true) ∧ Below w.heap.size w w' := by
  obtain ⟨oa, Aa, na, ca, rfl⟩ := ha.form
  have HA := Lib.hid ha
  obtain ⟨ob, Ab, nb, cb, rfl⟩ := hb.form
  have HB := Lib.hid hb
  obtain ⟨oc, Ac, nc, cc, rfl⟩ := hc.form
  have HC := Lib.hid hc
  have HTB := Lib.hid htab
  have HX0 := Lib.hid ((((XS.begin w).boxed (.int .i64 oa) (.slice Aa na ca) 24).boxed (.int .i64 ob) (.slice Ab nb cb) 24).boxed (.int .i64 oc) (.slice Ac nc cc) 24)
  simp only [List.nil_append, List.cons_append, World.size_alloc] at HX0
  clear htab ha hb hc
  unfold tv
  go_enter Tryd.func7, Tryd.ntmps7
  go_wp2_with fail
  refine (shown_any _ (HTB.out.up HX0.out.bel)).mono ?_
  rintro e w1 ⟨rfl, hb1⟩
  have HX1 := Lib.hid (HX0.out.next hb1)
  clear hb1 HX0
  have f := HX1.out.at0
  simp only [List.mem_cons, List.not_mem_nil, or_false, forall_eq_or_imp, forall_eq] at f
  obtain ⟨p0, p1, p2, p3, p4, p5⟩ := f
  have hcall := join_arg (HA.out.up HX1.out.bel) (HB.out.up HX1.out.bel)
  obtain ⟨rj, EJ0⟩ : ∃ r, joinR TA TB = r := ⟨_, rfl⟩
  rw [EJ0] at hcall
  obtain ⟨tj, zj⟩ := rj
  have EJ := Lib.hid EJ0
  clear EJ0
  unfold tv at hcall
  go_wp2_with fail
  refine hcall.mono ?_
  rintro e w2 ⟨vj, rfl, hTj, hb2⟩
  obtain ⟨Aj, nj, cj, rfl⟩ := hTj.form
  simp only at hTj
  obtain ⟨oj, hoj⟩ : ∃ o, tj.N = o := ⟨_, rfl⟩
  rw [hoj] at hTj ⊢
  clear hoj
  have hXX := HX1.out.next hb2
  have HX2 := Lib.hid (hXX.boxed (.int .i64 oj) (.slice Aj nj cj) 24)
  simp only [List.nil_append, List.cons_append] at HX2
  have hbx : Below w2.heap.size w2 (w2.alloc (.cells #[.int .i64 oj, .slice Aj nj cj] 24)) := (Below.refl _ w2).alloc (Nat.le_refl _) _
  have hby : Below w1.heap.size w1 (w2.alloc (.cells #[.int .i64 oj, .slice Aj nj cj] 24)) := hb2.trans (hbx.mono hb2.size)
  have Tj2 := Lib.hid (hTj.old.up hbx)
  clear hcall hXX hbx hby hb2 hTj HX1 p0 p1 p2 p3 p4 p5
  unfold tv
  have f := HX2.out.at0
  simp only [List.mem_cons, List.not_mem_nil, or_false, forall_eq_or_imp, forall_eq] at f
  obtain ⟨p0, p1, p2, p3, p4, p5, p6, p7⟩ := f
  by_cases hzj : zj = 0
  · subst hzj
    have HC0 : Hid (∀ b, TC.isSome = b → True) := fun _ _ => trivial
    obtain ⟨rc, hrc⟩ : ∃ r, TC.isSome = r := ⟨_, rfl⟩
    have hcall := right_arg (HC.out.up HX2.out.bel)
    rw [hrc] at hcall
    unfold tv at hcall
    go_wp2_with fail
    refine hcall.mono ?_
    rintro e w3 ⟨rfl, hb3⟩
    have HX3 := Lib.hid (HX2.out.next hb3)
    have Tj3 := Lib.hid (Tj2.out.up hb3)
    clear Tj2
    clear hcall hb3 HX2 p0 p1 p2 p3 p4 p5 p6 p7
    have f := HX3.out.at0
    simp only [List.mem_cons, List.not_mem_nil, or_false, forall_eq_or_imp, forall_eq] at f
    obtain ⟨p0, p1, p2, p3, p4, p5, p6, p7⟩ := f
    cases rc with
    | false =>
      go_wp2
      go_ret
      exact ⟨rfl, HX3.out.bel⟩
    | true =>
      have hM := least_math EJ.out hrc
      obtain ⟨m1, m2, m3, m4⟩ := hM
      have M1 := Lib.hid m1
      have M2 := Lib.hid m2
      have M3 := Lib.hid m3
      obtain ⟨r1, hr1⟩ : ∃ r, leqO TA TC = r := ⟨_, rfl⟩
      obtain ⟨r2, hr2⟩ : ∃ r, leqO TB TC = r := ⟨_, rfl⟩
      obtain ⟨r3, hr3⟩ : ∃ r, leqO TA TB = r := ⟨_, rfl⟩
      obtain ⟨r4, hr4⟩ : ∃ r, leqO TB TA = r := ⟨_, rfl⟩
      have HRJ : Hid (leqO (fit tj) TC = (r1 && r2)) := by show _ = _; rw [m4, hr1, hr2]
      have HRS : Hid (sameO TA TB = (r3 && r4)) := by show _ = _; unfold sameO; rw [hr3, hr4]
      have HR1 := Lib.hid hr1
      have HR2 := Lib.hid hr2
      have HR3 := Lib.hid hr3
      have HR4 := Lib.hid hr4
      clear m1 m2 m3 m4 hr1 hr2 hr3 hr4 hrc HC0
      have hcall := leq_arg (HA.out.up HX3.out.bel) (arg_of Tj3.out)
      rw [M1.out] at hcall
      unfold tv at hcall
      go_wp2_with fail
      refine hcall.mono ?_
      rintro e w4 ⟨rfl, hb4⟩
      have HX4 := Lib.hid (HX3.out.next hb4)
      have Tj4 := Lib.hid (Tj3.out.up hb4)
      clear Tj3
      clear hcall hb4 HX3 p0 p1 p2 p3 p4 p5 p6 p7
      have f := HX4.out.at0
      simp only [List.mem_cons, List.not_mem_nil, or_false, forall_eq_or_imp, forall_eq] at f
      obtain ⟨p0, p1, p2, p3, p4, p5, p6, p7⟩ := f
      have hcall := leq_arg (HB.out.up HX4.out.bel) (arg_of Tj4.out)
      rw [M2.out] at hcall
      unfold tv at hcall
      go_wp2_with fail
      refine hcall.mono ?_
      rintro e w5 ⟨rfl, hb5⟩
      have HX5 := Lib.hid (HX4.out.next hb5)
      have Tj5 := Lib.hid (Tj4.out.up hb5)
      clear Tj4
      clear hcall hb5 HX4 p0 p1 p2 p3 p4 p5 p6 p7
      have f := HX5.out.at0
      simp only [List.mem_cons, List.not_mem_nil, or_false, forall_eq_or_imp, forall_eq] at f
      obtain ⟨p0, p1, p2, p3, p4, p5, p6, p7⟩ := f
      have hcall := leq_arg (arg_of Tj5.out) (arg_of Tj5.out)
      rw [M3.out] at hcall
      unfold tv at hcall
      go_wp2_with fail
      refine hcall.mono ?_
      rintro e w6 ⟨rfl, hb6⟩
      have HX6 := Lib.hid (HX5.out.next hb6)
      have Tj6 := Lib.hid (Tj5.out.up hb6)
      clear Tj5
      clear hcall hb6 HX5 p0 p1 p2 p3 p4 p5 p6 p7
      have f := HX6.out.at0
      simp only [List.mem_cons, List.not_mem_nil, or_false, forall_eq_or_imp, forall_eq] at f
      obtain ⟨p0, p1, p2, p3, p4, p5, p6, p7⟩ := f
      have hcall := leq_arg (HA.out.up HX6.out.bel) (HC.out.up HX6.out.bel)
      rw [HR1.out] at hcall
      unfold tv at hcall
      go_wp2_with fail
      refine hcall.mono ?_
      rintro e w7 ⟨rfl, hb7⟩
      have HX7 := Lib.hid (HX6.out.next hb7)
      have Tj7 := Lib.hid (Tj6.out.up hb7)
      clear Tj6
      clear hcall hb7 HX6 p0 p1 p2 p3 p4 p5 p6 p7
      have f := HX7.out.at0
      simp only [List.mem_cons, List.not_mem_nil, or_false, forall_eq_or_imp, forall_eq] at f
      obtain ⟨p0, p1, p2, p3, p4, p5, p6, p7⟩ := f
      cases r1 with
      | false =>
        cases r3 with
        | false =>
          have hbD : Below w7.heap.size w7 w7.drew := (Below.refl _ _).drew
          have Dj := Lib.hid (Tj7.out.up hbD)
          clear Tj7
          have hXD : XS w [(w.heap.size, 0, .int .i64 oa), (w.heap.size, 1, .slice Aa na ca), (w.heap.size + 1, 0, .int .i64 ob), (w.heap.size + 1, 1, .slice Ab nb cb), (w.heap.size + 1 + 1, 0, .int .i64 oc), (w.heap.size + 1 + 1, 1, .slice Ac nc cc), (w2.heap.size, 0, .int .i64 oj), (w2.heap.size, 1, .slice Aj nj cj)] [] w7.drew ∧ Below w7.drew.heap.size w7.drew w7.drew := ⟨(HX7.out.drew).sub (fun _ h => h) (by simp), Below.refl _ _⟩
          clear hbD HX7 p0 p1 p2 p3 p4 p5 p6 p7
          go_wp2
          refine wp_region_held_drew (S := fun W => XS w [(w.heap.size, 0, .int .i64 oa), (w.heap.size, 1, .slice Aa na ca), (w.heap.size + 1, 0, .int .i64 ob), (w.heap.size + 1, 1, .slice Ab nb cb), (w.heap.size + 1 + 1, 0, .int .i64 oc), (w.heap.size + 1 + 1, 1, .slice Ac nc cc), (w2.heap.size, 0, .int .i64 oj), (w2.heap.size, 1, .slice Aj nj cj)] [] W ∧ Below w7.drew.heap.size w7.drew W) (by kernel_rfl) hXD (fun hS => ?_)
          clear hXD
          generalize w7.drew = wd at hS Dj ⊢
          have HF : Hid (∀ W, (XS w [(w.heap.size, 0, .int .i64 oa), (w.heap.size, 1, .slice Aa na ca), (w.heap.size + 1, 0, .int .i64 ob), (w.heap.size + 1, 1, .slice Ab nb cb), (w.heap.size + 1 + 1, 0, .int .i64 oc), (w.heap.size + 1 + 1, 1, .slice Ac nc cc), (w2.heap.size, 0, .int .i64 oj), (w2.heap.size, 1, .slice Aj nj cj)] [] W ∧ Below wd.heap.size wd W) → W.cell? ⟨w.heap.size, 0, none⟩ = some (.int .i64 oa) ∧ W.cell? ⟨w.heap.size, 1, none⟩ = some (.slice Aa na ca) ∧ W.cell? ⟨w.heap.size + 1, 0, none⟩ = some (.int .i64 ob) ∧ W.cell? ⟨w.heap.size + 1, 1, none⟩ = some (.slice Ab nb cb) ∧ W.cell? ⟨w.heap.size + 1 + 1, 0, none⟩ = some (.int .i64 oc) ∧ W.cell? ⟨w.heap.size + 1 + 1, 1, none⟩ = some (.slice Ac nc cc) ∧ W.cell? ⟨w2.heap.size, 0, none⟩ = some (.int .i64 oj) ∧ W.cell? ⟨w2.heap.size, 1, none⟩ = some (.slice Aj nj cj)) := fun W hW => ⟨hW.1.get (by simp), hW.1.get (by simp), hW.1.get (by simp), hW.1.get (by simp), hW.1.get (by simp), hW.1.get (by simp), hW.1.get (by simp), hW.1.get (by simp)⟩
          refine wpAnyH_take (i := 0) (v := ?_) rfl (by kernel_rfl) (by kernel_rfl) (by kernel_rfl) (fun _ _ _ h => h) (Yields.yieldsIf (Or.inl ⟨by kernel_rfl, ?_⟩)) hS ?_
          rotate_left
          · first | (intro w; go_simp; done) | (intro w; go_simp; with_reducible rfl)
          refine wpAnyH_take (i := 1) (v := ?_) rfl (by kernel_rfl) (by kernel_rfl) (by kernel_rfl) (fun _ _ _ h => h) (Yields.yieldsIf (Or.inl ⟨by kernel_rfl, ?_⟩)) hS ?_
          rotate_left
          · first | (intro w; go_simp; done) | (intro w; go_simp; with_reducible rfl)
          refine wpAnyH_take (i := 2) (v := ?_) rfl (by kernel_rfl) (by kernel_rfl) (by kernel_rfl) (fun _ _ _ h => h) (Yields.yieldsIf (Or.inl ⟨by kernel_rfl, ?_⟩)) hS ?_
          rotate_left
          · first | (intro w; go_simp; done) | (intro w; go_simp; with_reducible rfl)
          refine wpAnyH_take (i := 3) (v := ?_) rfl (by kernel_rfl) (by kernel_rfl) (by kernel_rfl) (fun _ _ _ h => h) (Or.inl ⟨by kernel_rfl, fun W hW => ?_⟩) hS ?_
          rotate_left
          · obtain ⟨f0, f1, f2, f3, f4, f5, f6, f7⟩ := HF.out W hW
            first | (go_simp; done) | (go_simp; with_reducible rfl)
          refine wpAnyH_take (i := 4) (v := ?_) rfl (by kernel_rfl) (by kernel_rfl) (by kernel_rfl) (fun _ _ _ h => h) (Or.inl ⟨by kernel_rfl, fun W hW => ?_⟩) hS ?_
          rotate_left
          · obtain ⟨f0, f1, f2, f3, f4, f5, f6, f7⟩ := HF.out W hW
            first | (go_simp; done) | (go_simp; with_reducible rfl)
          refine wpAnyH_ready (rs := [5]) (by kernel_rfl) (by simp) ?_
          refine AllReadyH.cons rfl (fun K hK => ?_) AllReadyH.nil
          go_simp
          go_wp2_with (go_at_call 21; refine ((leq_arg (arg_of (Dj.out.up hS.2)) (HC.out.up hS.1.bel))).mono ?_; rintro e w90 ⟨rfl, hb90⟩)
          rw [HRJ.out]
          simp only [Bool.false_and]
          have hS3 : XS w [(w.heap.size, 0, .int .i64 oa), (w.heap.size, 1, .slice Aa na ca), (w.heap.size + 1, 0, .int .i64 ob), (w.heap.size + 1, 1, .slice Ab nb cb), (w.heap.size + 1 + 1, 0, .int .i64 oc), (w.heap.size + 1 + 1, 1, .slice Ac nc cc), (w2.heap.size, 0, .int .i64 oj), (w2.heap.size, 1, .slice Aj nj cj)] [] w90 ∧ Below wd.heap.size wd w90 := ⟨hS.1.next hb90, hS.2.trans (hb90.mono hS.2.size)⟩
          clear hb90 hS
          refine hK.out _ _ hS3 (fun hS => ?_)
          clear hK K hS3
          refine wpAnyH_take (i := 6) (v := ?_) rfl (by kernel_rfl) (by kernel_rfl) (by kernel_rfl) (fun _ _ _ h => h) (Yields.yieldsIf (Or.inl ⟨by kernel_rfl, ?_⟩)) hS ?_
          rotate_left
          · first | (intro w; go_simp; done) | (intro w; go_simp; with_reducible rfl)
          refine wpAnyH_take (i := 7) (v := ?_) rfl (by kernel_rfl) (by kernel_rfl) (by kernel_rfl) (fun _ _ _ h => h) (Yields.yieldsIf (Or.inl ⟨by kernel_rfl, ?_⟩)) hS ?_
          rotate_left
          · first | (intro w; go_simp; done) | (intro w; go_simp; with_reducible rfl)
          refine wpAnyH_take (i := 8) (v := ?_) rfl (by kernel_rfl) (by kernel_rfl) (by kernel_rfl) (fun _ _ _ h => h) (Yields.yieldsIf (Or.inl ⟨by kernel_rfl, ?_⟩)) hS ?_
          rotate_left
          · first | (intro w; go_simp; done) | (intro w; go_simp; with_reducible rfl)
          refine wpAnyH_take (i := 9) (v := ?_) rfl (by kernel_rfl) (by kernel_rfl) (by kernel_rfl) (fun _ _ _ h => h) (Or.inl ⟨by kernel_rfl, fun W hW => ?_⟩) hS ?_
          rotate_left
          · obtain ⟨f0, f1, f2, f3, f4, f5, f6, f7⟩ := HF.out W hW
            first | (go_simp; done) | (go_simp; with_reducible rfl)
          refine wpAnyH_take (i := 10) (v := ?_) rfl (by kernel_rfl) (by kernel_rfl) (by kernel_rfl) (fun _ _ _ h => h) (Or.inl ⟨by kernel_rfl, fun W hW => ?_⟩) hS ?_
          rotate_left
          · obtain ⟨f0, f1, f2, f3, f4, f5, f6, f7⟩ := HF.out W hW
            first | (go_simp; done) | (go_simp; with_reducible rfl)
          refine wpAnyH_take (i := 17) (v := ?_) rfl (by kernel_rfl) (by kernel_rfl) (by kernel_rfl) (fun _ _ _ h => h) (Or.inl ⟨by kernel_rfl, fun W hW => ?_⟩) hS ?_
          rotate_left
          · obtain ⟨f0, f1, f2, f3, f4, f5, f6, f7⟩ := HF.out W hW
            first | (go_simp; done) | (go_simp; with_reducible rfl)
          refine wpAnyH_take (i := 18) (v := ?_) rfl (by kernel_rfl) (by kernel_rfl) (by kernel_rfl) (fun _ _ _ h => h) (Or.inl ⟨by kernel_rfl, fun W hW => ?_⟩) hS ?_
          rotate_left
          · obtain ⟨f0, f1, f2, f3, f4, f5, f6, f7⟩ := HF.out W hW
            first | (go_simp; done) | (go_simp; with_reducible rfl)
          refine wpAnyH_ready (rs := [11]) (by kernel_rfl) (by simp) ?_
          refine AllReadyH.cons rfl (fun K hK => ?_) AllReadyH.nil
          go_simp
          go_wp2_with (go_at_call 21; refine ((leq_arg (HA.out.up hS.1.bel) (HB.out.up hS.1.bel))).mono ?_; rintro e w91 ⟨rfl, hb91⟩)
          rw [HR3.out]
          have hS3 : XS w [(w.heap.size, 0, .int .i64 oa), (w.heap.size, 1, .slice Aa na ca), (w.heap.size + 1, 0, .int .i64 ob), (w.heap.size + 1, 1, .slice Ab nb cb), (w.heap.size + 1 + 1, 0, .int .i64 oc), (w.heap.size + 1 + 1, 1, .slice Ac nc cc), (w2.heap.size, 0, .int .i64 oj), (w2.heap.size, 1, .slice Aj nj cj)] [] w91 ∧ Below wd.heap.size wd w91 := ⟨hS.1.next hb91, hS.2.trans (hb91.mono hS.2.size)⟩
          clear hb91 hS
          refine hK.out _ _ hS3 (fun hS => ?_)
          clear hK K hS3
          refine wpAnyH_take (i := 12) (v := ?_) rfl (by kernel_rfl) (by kernel_rfl) (by kernel_rfl) (fun _ _ _ h => h) (Yields.yieldsIf (Or.inl ⟨by kernel_rfl, ?_⟩)) hS ?_
          rotate_left
          · first | (intro w; go_simp; done) | (intro w; go_simp; with_reducible rfl)
          refine wpAnyH_take (i := 13) (v := undef) rfl (by kernel_rfl) (by kernel_rfl) (by kernel_rfl) (fun _ _ _ h => h) (Or.inr ⟨by kernel_rfl, rfl⟩) hS ?_
          refine wpAnyH_take (i := 14) (v := undef) rfl (by kernel_rfl) (by kernel_rfl) (by kernel_rfl) (fun _ _ _ h => h) (Or.inr ⟨by kernel_rfl, rfl⟩) hS ?_
          refine wpAnyH_take (i := 15) (v := undef) rfl (by kernel_rfl) (by kernel_rfl) (by kernel_rfl) (fun _ _ _ h => h) (Or.inr ⟨by kernel_rfl, rfl⟩) hS ?_
          go_simp
          refine wpAnyH_take (i := 16) (v := ?_) rfl (by kernel_rfl) (by kernel_rfl) (by kernel_rfl) (fun _ _ _ h => h) (Yields.yieldsIf (Or.inl ⟨by kernel_rfl, ?_⟩)) hS ?_
          rotate_left
          · first | (intro w; go_simp; done) | (intro w; go_simp; with_reducible rfl)
          refine wpAnyH_ready (rs := [19]) (by kernel_rfl) (by simp) ?_
          refine AllReadyH.cons rfl (fun K hK => ?_) AllReadyH.nil
          go_simp
          go_wp2_with (go_at_call 23; refine ((same_arg (HA.out.up hS.1.bel) (HB.out.up hS.1.bel))).mono ?_; rintro e w92 ⟨rfl, hb92⟩)
          rw [HRS.out]
          simp only [Bool.false_and]
          have hS3 : XS w [(w.heap.size, 0, .int .i64 oa), (w.heap.size, 1, .slice Aa na ca), (w.heap.size + 1, 0, .int .i64 ob), (w.heap.size + 1, 1, .slice Ab nb cb), (w.heap.size + 1 + 1, 0, .int .i64 oc), (w.heap.size + 1 + 1, 1, .slice Ac nc cc), (w2.heap.size, 0, .int .i64 oj), (w2.heap.size, 1, .slice Aj nj cj)] [] w92 ∧ Below wd.heap.size wd w92 := ⟨hS.1.next hb92, hS.2.trans (hb92.mono hS.2.size)⟩
          clear hb92 hS
          refine hK.out _ _ hS3 (fun hS => ?_)
          clear hK K hS3
          refine wpAnyH_take (i := 20) (v := ?_) rfl (by kernel_rfl) (by kernel_rfl) (by kernel_rfl) (fun _ _ _ h => h) (Yields.yieldsIf (Or.inl ⟨by kernel_rfl, ?_⟩)) hS ?_
          rotate_left
          · first | (intro w; go_simp; done) | (intro w; go_simp; with_reducible rfl)
          refine wpAnyH_take (i := 21) (v := ?_) rfl (by kernel_rfl) (by kernel_rfl) (by kernel_rfl) (fun _ _ _ h => h) (Yields.yieldsIf (Or.inl ⟨by kernel_rfl, ?_⟩)) hS ?_
          rotate_left
          · first | (intro w; go_simp; done) | (intro w; go_simp; with_reducible rfl)
          refine wpAnyH_take (i := 22) (v := ?_) rfl (by kernel_rfl) (by kernel_rfl) (by kernel_rfl) (fun _ _ _ h => h) (Yields.yieldsIf (Or.inl ⟨by kernel_rfl, ?_⟩)) hS ?_
          rotate_left
          · first | (intro w; go_simp; done) | (intro w; go_simp; with_reducible rfl)
          go_simp
          try go_simp
          refine wpAnyH_done (by kernel_rfl) ?_ _
          clear HF
          go_wp2
          go_ret
          exact ⟨ret_bool (by simp), hS.1.bel⟩
        | true =>
          have hbD : Below w7.heap.size w7 w7.drew := (Below.refl _ _).drew
          have Dj := Lib.hid (Tj7.out.up hbD)
          clear Tj7
          have hXD : XS w [(w.heap.size, 0, .int .i64 oa), (w.heap.size, 1, .slice Aa na ca), (w.heap.size + 1, 0, .int .i64 ob), (w.heap.size + 1, 1, .slice Ab nb cb), (w.heap.size + 1 + 1, 0, .int .i64 oc), (w.heap.size + 1 + 1, 1, .slice Ac nc cc), (w2.heap.size, 0, .int .i64 oj), (w2.heap.size, 1, .slice Aj nj cj)] [] w7.drew ∧ Below w7.drew.heap.size w7.drew w7.drew := ⟨(HX7.out.drew).sub (fun _ h => h) (by simp), Below.refl _ _⟩
          clear hbD HX7 p0 p1 p2 p3 p4 p5 p6 p7
          go_wp2
          refine wp_region_held_drew (S := fun W => XS w [(w.heap.size, 0, .int .i64 oa), (w.heap.size, 1, .slice Aa na ca), (w.heap.size + 1, 0, .int .i64 ob), (w.heap.size + 1, 1, .slice Ab nb cb), (w.heap.size + 1 + 1, 0, .int .i64 oc), (w.heap.size + 1 + 1, 1, .slice Ac nc cc), (w2.heap.size, 0, .int .i64 oj), (w2.heap.size, 1, .slice Aj nj cj)] [] W ∧ Below w7.drew.heap.size w7.drew W) (by kernel_rfl) hXD (fun hS => ?_)
          clear hXD
          generalize w7.drew = wd at hS Dj ⊢
          have HF : Hid (∀ W, (XS w [(w.heap.size, 0, .int .i64 oa), (w.heap.size, 1, .slice Aa na ca), (w.heap.size + 1, 0, .int .i64 ob), (w.heap.size + 1, 1, .slice Ab nb cb), (w.heap.size + 1 + 1, 0, .int .i64 oc), (w.heap.size + 1 + 1, 1, .slice Ac nc cc), (w2.heap.size, 0, .int .i64 oj), (w2.heap.size, 1, .slice Aj nj cj)] [] W ∧ Below wd.heap.size wd W) → W.cell? ⟨w.heap.size, 0, none⟩ = some (.int .i64 oa) ∧ W.cell? ⟨w.heap.size, 1, none⟩ = some (.slice Aa na ca) ∧ W.cell? ⟨w.heap.size + 1, 0, none⟩ = some (.int .i64 ob) ∧ W.cell? ⟨w.heap.size + 1, 1, none⟩ = some (.slice Ab nb cb) ∧ W.cell? ⟨w.heap.size + 1 + 1, 0, none⟩ = some (.int .i64 oc) ∧ W.cell? ⟨w.heap.size + 1 + 1, 1, none⟩ = some (.slice Ac nc cc) ∧ W.cell? ⟨w2.heap.size, 0, none⟩ = some (.int .i64 oj) ∧ W.cell? ⟨w2.heap.size, 1, none⟩ = some (.slice Aj nj cj)) := fun W hW => ⟨hW.1.get (by simp), hW.1.get (by simp), hW.1.get (by simp), hW.1.get (by simp), hW.1.get (by simp), hW.1.get (by simp), hW.1.get (by simp), hW.1.get (by simp)⟩
          refine wpAnyH_take (i := 0) (v := ?_) rfl (by kernel_rfl) (by kernel_rfl) (by kernel_rfl) (fun _ _ _ h => h) (Yields.yieldsIf (Or.inl ⟨by kernel_rfl, ?_⟩)) hS ?_
          rotate_left
          · first | (intro w; go_simp; done) | (intro w; go_simp; with_reducible rfl)
          refine wpAnyH_take (i := 1) (v := ?_) rfl (by kernel_rfl) (by kernel_rfl) (by kernel_rfl) (fun _ _ _ h => h) (Yields.yieldsIf (Or.inl ⟨by kernel_rfl, ?_⟩)) hS ?_
          rotate_left
          · first | (intro w; go_simp; done) | (intro w; go_simp; with_reducible rfl)
          refine wpAnyH_take (i := 2) (v := ?_) rfl (by kernel_rfl) (by kernel_rfl) (by kernel_rfl) (fun _ _ _ h => h) (Yields.yieldsIf (Or.inl ⟨by kernel_rfl, ?_⟩)) hS ?_
          rotate_left
          · first | (intro w; go_simp; done) | (intro w; go_simp; with_reducible rfl)
          refine wpAnyH_take (i := 3) (v := ?_) rfl (by kernel_rfl) (by kernel_rfl) (by kernel_rfl) (fun _ _ _ h => h) (Or.inl ⟨by kernel_rfl, fun W hW => ?_⟩) hS ?_
          rotate_left
          · obtain ⟨f0, f1, f2, f3, f4, f5, f6, f7⟩ := HF.out W hW
            first | (go_simp; done) | (go_simp; with_reducible rfl)
          refine wpAnyH_take (i := 4) (v := ?_) rfl (by kernel_rfl) (by kernel_rfl) (by kernel_rfl) (fun _ _ _ h => h) (Or.inl ⟨by kernel_rfl, fun W hW => ?_⟩) hS ?_
          rotate_left
          · obtain ⟨f0, f1, f2, f3, f4, f5, f6, f7⟩ := HF.out W hW
            first | (go_simp; done) | (go_simp; with_reducible rfl)
          refine wpAnyH_ready (rs := [5]) (by kernel_rfl) (by simp) ?_
          refine AllReadyH.cons rfl (fun K hK => ?_) AllReadyH.nil
          go_simp
          go_wp2_with (go_at_call 21; refine ((leq_arg (arg_of (Dj.out.up hS.2)) (HC.out.up hS.1.bel))).mono ?_; rintro e w90 ⟨rfl, hb90⟩)
          rw [HRJ.out]
          simp only [Bool.false_and]
          have hS3 : XS w [(w.heap.size, 0, .int .i64 oa), (w.heap.size, 1, .slice Aa na ca), (w.heap.size + 1, 0, .int .i64 ob), (w.heap.size + 1, 1, .slice Ab nb cb), (w.heap.size + 1 + 1, 0, .int .i64 oc), (w.heap.size + 1 + 1, 1, .slice Ac nc cc), (w2.heap.size, 0, .int .i64 oj), (w2.heap.size, 1, .slice Aj nj cj)] [] w90 ∧ Below wd.heap.size wd w90 := ⟨hS.1.next hb90, hS.2.trans (hb90.mono hS.2.size)⟩
          clear hb90 hS
          refine hK.out _ _ hS3 (fun hS => ?_)
          clear hK K hS3
          refine wpAnyH_take (i := 6) (v := ?_) rfl (by kernel_rfl) (by kernel_rfl) (by kernel_rfl) (fun _ _ _ h => h) (Yields.yieldsIf (Or.inl ⟨by kernel_rfl, ?_⟩)) hS ?_
          rotate_left
          · first | (intro w; go_simp; done) | (intro w; go_simp; with_reducible rfl)
          refine wpAnyH_take (i := 7) (v := ?_) rfl (by kernel_rfl) (by kernel_rfl) (by kernel_rfl) (fun _ _ _ h => h) (Yields.yieldsIf (Or.inl ⟨by kernel_rfl, ?_⟩)) hS ?_
          rotate_left
          · first | (intro w; go_simp; done) | (intro w; go_simp; with_reducible rfl)
          refine wpAnyH_take (i := 8) (v := ?_) rfl (by kernel_rfl) (by kernel_rfl) (by kernel_rfl) (fun _ _ _ h => h) (Yields.yieldsIf (Or.inl ⟨by kernel_rfl, ?_⟩)) hS ?_
          rotate_left
          · first | (intro w; go_simp; done) | (intro w; go_simp; with_reducible rfl)
          refine wpAnyH_take (i := 9) (v := ?_) rfl (by kernel_rfl) (by kernel_rfl) (by kernel_rfl) (fun _ _ _ h => h) (Or.inl ⟨by kernel_rfl, fun W hW => ?_⟩) hS ?_
          rotate_left
          · obtain ⟨f0, f1, f2, f3, f4, f5, f6, f7⟩ := HF.out W hW
            first | (go_simp; done) | (go_simp; with_reducible rfl)
          refine wpAnyH_take (i := 10) (v := ?_) rfl (by kernel_rfl) (by kernel_rfl) (by kernel_rfl) (fun _ _ _ h => h) (Or.inl ⟨by kernel_rfl, fun W hW => ?_⟩) hS ?_
          rotate_left
          · obtain ⟨f0, f1, f2, f3, f4, f5, f6, f7⟩ := HF.out W hW
            first | (go_simp; done) | (go_simp; with_reducible rfl)
          refine wpAnyH_take (i := 17) (v := ?_) rfl (by kernel_rfl) (by kernel_rfl) (by kernel_rfl) (fun _ _ _ h => h) (Or.inl ⟨by kernel_rfl, fun W hW => ?_⟩) hS ?_
          rotate_left
          · obtain ⟨f0, f1, f2, f3, f4, f5, f6, f7⟩ := HF.out W hW
            first | (go_simp; done) | (go_simp; with_reducible rfl)
          refine wpAnyH_take (i := 18) (v := ?_) rfl (by kernel_rfl) (by kernel_rfl) (by kernel_rfl) (fun _ _ _ h => h) (Or.inl ⟨by kernel_rfl, fun W hW => ?_⟩) hS ?_
          rotate_left
          · obtain ⟨f0, f1, f2, f3, f4, f5, f6, f7⟩ := HF.out W hW
            first | (go_simp; done) | (go_simp; with_reducible rfl)
          refine wpAnyH_ready (rs := [11]) (by kernel_rfl) (by simp) ?_
          refine AllReadyH.cons rfl (fun K hK => ?_) AllReadyH.nil
          go_simp
          go_wp2_with (go_at_call 21; refine ((leq_arg (HA.out.up hS.1.bel) (HB.out.up hS.1.bel))).mono ?_; rintro e w91 ⟨rfl, hb91⟩)
          rw [HR3.out]
          have hS3 : XS w [(w.heap.size, 0, .int .i64 oa), (w.heap.size, 1, .slice Aa na ca), (w.heap.size + 1, 0, .int .i64 ob), (w.heap.size + 1, 1, .slice Ab nb cb), (w.heap.size + 1 + 1, 0, .int .i64 oc), (w.heap.size + 1 + 1, 1, .slice Ac nc cc), (w2.heap.size, 0, .int .i64 oj), (w2.heap.size, 1, .slice Aj nj cj)] [] w91 ∧ Below wd.heap.size wd w91 := ⟨hS.1.next hb91, hS.2.trans (hb91.mono hS.2.size)⟩
          clear hb91 hS
          refine hK.out _ _ hS3 (fun hS => ?_)
          clear hK K hS3
          refine wpAnyH_take (i := 12) (v := ?_) rfl (by kernel_rfl) (by kernel_rfl) (by kernel_rfl) (fun _ _ _ h => h) (Yields.yieldsIf (Or.inl ⟨by kernel_rfl, ?_⟩)) hS ?_
          rotate_left
          · first | (intro w; go_simp; done) | (intro w; go_simp; with_reducible rfl)
          refine wpAnyH_take (i := 13) (v := ?_) rfl (by kernel_rfl) (by kernel_rfl) (by kernel_rfl) (fun _ _ _ h => h) (Or.inl ⟨by kernel_rfl, fun W hW => ?_⟩) hS ?_
          rotate_left
          · obtain ⟨f0, f1, f2, f3, f4, f5, f6, f7⟩ := HF.out W hW
            first | (go_simp; done) | (go_simp; with_reducible rfl)
          refine wpAnyH_take (i := 14) (v := ?_) rfl (by kernel_rfl) (by kernel_rfl) (by kernel_rfl) (fun _ _ _ h => h) (Or.inl ⟨by kernel_rfl, fun W hW => ?_⟩) hS ?_
          rotate_left
          · obtain ⟨f0, f1, f2, f3, f4, f5, f6, f7⟩ := HF.out W hW
            first | (go_simp; done) | (go_simp; with_reducible rfl)
          refine wpAnyH_ready (rs := [15]) (by kernel_rfl) (by simp) ?_
          refine AllReadyH.cons rfl (fun K hK => ?_) AllReadyH.nil
          go_simp
          go_wp2_with (go_at_call 21; refine ((leq_arg (HB.out.up hS.1.bel) (HA.out.up hS.1.bel))).mono ?_; rintro e w92 ⟨rfl, hb92⟩)
          rw [HR4.out]
          have hS3 : XS w [(w.heap.size, 0, .int .i64 oa), (w.heap.size, 1, .slice Aa na ca), (w.heap.size + 1, 0, .int .i64 ob), (w.heap.size + 1, 1, .slice Ab nb cb), (w.heap.size + 1 + 1, 0, .int .i64 oc), (w.heap.size + 1 + 1, 1, .slice Ac nc cc), (w2.heap.size, 0, .int .i64 oj), (w2.heap.size, 1, .slice Aj nj cj)] [] w92 ∧ Below wd.heap.size wd w92 := ⟨hS.1.next hb92, hS.2.trans (hb92.mono hS.2.size)⟩
          clear hb92 hS
          refine hK.out _ _ hS3 (fun hS => ?_)
          clear hK K hS3
          refine wpAnyH_take (i := 16) (v := ?_) rfl (by kernel_rfl) (by kernel_rfl) (by kernel_rfl) (fun _ _ _ h => h) (Yields.yieldsIf (Or.inl ⟨by kernel_rfl, ?_⟩)) hS ?_
          rotate_left
          · first | (intro w; go_simp; done) | (intro w; go_simp; with_reducible rfl)
          refine wpAnyH_ready (rs := [19]) (by kernel_rfl) (by simp) ?_
          refine AllReadyH.cons rfl (fun K hK => ?_) AllReadyH.nil
          go_simp
          go_wp2_with (go_at_call 23; refine ((same_arg (HA.out.up hS.1.bel) (HB.out.up hS.1.bel))).mono ?_; rintro e w93 ⟨rfl, hb93⟩)
          rw [HRS.out]
          simp only [Bool.true_and]
          have hS3 : XS w [(w.heap.size, 0, .int .i64 oa), (w.heap.size, 1, .slice Aa na ca), (w.heap.size + 1, 0, .int .i64 ob), (w.heap.size + 1, 1, .slice Ab nb cb), (w.heap.size + 1 + 1, 0, .int .i64 oc), (w.heap.size + 1 + 1, 1, .slice Ac nc cc), (w2.heap.size, 0, .int .i64 oj), (w2.heap.size, 1, .slice Aj nj cj)] [] w93 ∧ Below wd.heap.size wd w93 := ⟨hS.1.next hb93, hS.2.trans (hb93.mono hS.2.size)⟩
          clear hb93 hS
          refine hK.out _ _ hS3 (fun hS => ?_)
          clear hK K hS3
          refine wpAnyH_take (i := 20) (v := ?_) rfl (by kernel_rfl) (by kernel_rfl) (by kernel_rfl) (fun _ _ _ h => h) (Yields.yieldsIf (Or.inl ⟨by kernel_rfl, ?_⟩)) hS ?_
          rotate_left
          · first | (intro w; go_simp; done) | (intro w; go_simp; with_reducible rfl)
          refine wpAnyH_take (i := 21) (v := ?_) rfl (by kernel_rfl) (by kernel_rfl) (by kernel_rfl) (fun _ _ _ h => h) (Yields.yieldsIf (Or.inl ⟨by kernel_rfl, ?_⟩)) hS ?_
          rotate_left
          · first | (intro w; go_simp; done) | (intro w; go_simp; with_reducible rfl)
          refine wpAnyH_take (i := 22) (v := ?_) rfl (by kernel_rfl) (by kernel_rfl) (by kernel_rfl) (fun _ _ _ h => h) (Yields.yieldsIf (Or.inl ⟨by kernel_rfl, ?_⟩)) hS ?_
          rotate_left
          · first | (intro w; go_simp; done) | (intro w; go_simp; with_reducible rfl)
          try go_simp
          refine wpAnyH_done (by kernel_rfl) ?_ _
          clear HF
          go_wp2
          go_ret
          exact ⟨ret_bool (by simp), hS.1.bel⟩
      | true =>
        have hcall := leq_arg (HB.out.up HX7.out.bel) (HC.out.up HX7.out.bel)
        rw [HR2.out] at hcall
        unfold tv at hcall
        go_wp2_with fail
        refine hcall.mono ?_
        rintro e w8 ⟨rfl, hb8⟩
        have HX8 := Lib.hid (HX7.out.next hb8)
        have Tj8 := Lib.hid (Tj7.out.up hb8)
        clear Tj7
        clear hcall hb8 HX7 p0 p1 p2 p3 p4 p5 p6 p7
        have f := HX8.out.at0
        simp only [List.mem_cons, List.not_mem_nil, or_false, forall_eq_or_imp, forall_eq] at f
        obtain ⟨p0, p1, p2, p3, p4, p5, p6, p7⟩ := f
        cases r3 with
        | false =>
          have hbD : Below w8.heap.size w8 w8.drew := (Below.refl _ _).drew
          have Dj := Lib.hid (Tj8.out.up hbD)
          clear Tj8
          have hXD : XS w [(w.heap.size, 0, .int .i64 oa), (w.heap.size, 1, .slice Aa na ca), (w.heap.size + 1, 0, .int .i64 ob), (w.heap.size + 1, 1, .slice Ab nb cb), (w.heap.size + 1 + 1, 0, .int .i64 oc), (w.heap.size + 1 + 1, 1, .slice Ac nc cc), (w2.heap.size, 0, .int .i64 oj), (w2.heap.size, 1, .slice Aj nj cj)] [] w8.drew ∧ Below w8.drew.heap.size w8.drew w8.drew := ⟨(HX8.out.drew).sub (fun _ h => h) (by simp), Below.refl _ _⟩
          clear hbD HX8 p0 p1 p2 p3 p4 p5 p6 p7
          go_wp2
          refine wp_region_held_drew (S := fun W => XS w [(w.heap.size, 0, .int .i64 oa), (w.heap.size, 1, .slice Aa na ca), (w.heap.size + 1, 0, .int .i64 ob), (w.heap.size + 1, 1, .slice Ab nb cb), (w.heap.size + 1 + 1, 0, .int .i64 oc), (w.heap.size + 1 + 1, 1, .slice Ac nc cc), (w2.heap.size, 0, .int .i64 oj), (w2.heap.size, 1, .slice Aj nj cj)] [] W ∧ Below w8.drew.heap.size w8.drew W) (by kernel_rfl) hXD (fun hS => ?_)
          clear hXD
          generalize w8.drew = wd at hS Dj ⊢
          have HF : Hid (∀ W, (XS w [(w.heap.size, 0, .int .i64 oa), (w.heap.size, 1, .slice Aa na ca), (w.heap.size + 1, 0, .int .i64 ob), (w.heap.size + 1, 1, .slice Ab nb cb), (w.heap.size + 1 + 1, 0, .int .i64 oc), (w.heap.size + 1 + 1, 1, .slice Ac nc cc), (w2.heap.size, 0, .int .i64 oj), (w2.heap.size, 1, .slice Aj nj cj)] [] W ∧ Below wd.heap.size wd W) → W.cell? ⟨w.heap.size, 0, none⟩ = some (.int .i64 oa) ∧ W.cell? ⟨w.heap.size, 1, none⟩ = some (.slice Aa na ca) ∧ W.cell? ⟨w.heap.size + 1, 0, none⟩ = some (.int .i64 ob) ∧ W.cell? ⟨w.heap.size + 1, 1, none⟩ = some (.slice Ab nb cb) ∧ W.cell? ⟨w.heap.size + 1 + 1, 0, none⟩ = some (.int .i64 oc) ∧ W.cell? ⟨w.heap.size + 1 + 1, 1, none⟩ = some (.slice Ac nc cc) ∧ W.cell? ⟨w2.heap.size, 0, none⟩ = some (.int .i64 oj) ∧ W.cell? ⟨w2.heap.size, 1, none⟩ = some (.slice Aj nj cj)) := fun W hW => ⟨hW.1.get (by simp), hW.1.get (by simp), hW.1.get (by simp), hW.1.get (by simp), hW.1.get (by simp), hW.1.get (by simp), hW.1.get (by simp), hW.1.get (by simp)⟩
          refine wpAnyH_take (i := 0) (v := ?_) rfl (by kernel_rfl) (by kernel_rfl) (by kernel_rfl) (fun _ _ _ h => h) (Yields.yieldsIf (Or.inl ⟨by kernel_rfl, ?_⟩)) hS ?_
          rotate_left
          · first | (intro w; go_simp; done) | (intro w; go_simp; with_reducible rfl)
          refine wpAnyH_take (i := 1) (v := ?_) rfl (by kernel_rfl) (by kernel_rfl) (by kernel_rfl) (fun _ _ _ h => h) (Yields.yieldsIf (Or.inl ⟨by kernel_rfl, ?_⟩)) hS ?_
          rotate_left
          · first | (intro w; go_simp; done) | (intro w; go_simp; with_reducible rfl)
          refine wpAnyH_take (i := 2) (v := ?_) rfl (by kernel_rfl) (by kernel_rfl) (by kernel_rfl) (fun _ _ _ h => h) (Yields.yieldsIf (Or.inl ⟨by kernel_rfl, ?_⟩)) hS ?_
          rotate_left
          · first | (intro w; go_simp; done) | (intro w; go_simp; with_reducible rfl)
          refine wpAnyH_take (i := 3) (v := ?_) rfl (by kernel_rfl) (by kernel_rfl) (by kernel_rfl) (fun _ _ _ h => h) (Or.inl ⟨by kernel_rfl, fun W hW => ?_⟩) hS ?_
          rotate_left
          · obtain ⟨f0, f1, f2, f3, f4, f5, f6, f7⟩ := HF.out W hW
            first | (go_simp; done) | (go_simp; with_reducible rfl)
          refine wpAnyH_take (i := 4) (v := ?_) rfl (by kernel_rfl) (by kernel_rfl) (by kernel_rfl) (fun _ _ _ h => h) (Or.inl ⟨by kernel_rfl, fun W hW => ?_⟩) hS ?_
          rotate_left
          · obtain ⟨f0, f1, f2, f3, f4, f5, f6, f7⟩ := HF.out W hW
            first | (go_simp; done) | (go_simp; with_reducible rfl)
          refine wpAnyH_ready (rs := [5]) (by kernel_rfl) (by simp) ?_
          refine AllReadyH.cons rfl (fun K hK => ?_) AllReadyH.nil
          go_simp
          go_wp2_with (go_at_call 21; refine ((leq_arg (arg_of (Dj.out.up hS.2)) (HC.out.up hS.1.bel))).mono ?_; rintro e w90 ⟨rfl, hb90⟩)
          rw [HRJ.out]
          simp only [Bool.true_and]
          have hS3 : XS w [(w.heap.size, 0, .int .i64 oa), (w.heap.size, 1, .slice Aa na ca), (w.heap.size + 1, 0, .int .i64 ob), (w.heap.size + 1, 1, .slice Ab nb cb), (w.heap.size + 1 + 1, 0, .int .i64 oc), (w.heap.size + 1 + 1, 1, .slice Ac nc cc), (w2.heap.size, 0, .int .i64 oj), (w2.heap.size, 1, .slice Aj nj cj)] [] w90 ∧ Below wd.heap.size wd w90 := ⟨hS.1.next hb90, hS.2.trans (hb90.mono hS.2.size)⟩
          clear hb90 hS
          refine hK.out _ _ hS3 (fun hS => ?_)
          clear hK K hS3
          refine wpAnyH_take (i := 6) (v := ?_) rfl (by kernel_rfl) (by kernel_rfl) (by kernel_rfl) (fun _ _ _ h => h) (Yields.yieldsIf (Or.inl ⟨by kernel_rfl, ?_⟩)) hS ?_
          rotate_left
          · first | (intro w; go_simp; done) | (intro w; go_simp; with_reducible rfl)
          refine wpAnyH_take (i := 7) (v := ?_) rfl (by kernel_rfl) (by kernel_rfl) (by kernel_rfl) (fun _ _ _ h => h) (Yields.yieldsIf (Or.inl ⟨by kernel_rfl, ?_⟩)) hS ?_
          rotate_left
          · first | (intro w; go_simp; done) | (intro w; go_simp; with_reducible rfl)
          refine wpAnyH_take (i := 8) (v := ?_) rfl (by kernel_rfl) (by kernel_rfl) (by kernel_rfl) (fun _ _ _ h => h) (Yields.yieldsIf (Or.inl ⟨by kernel_rfl, ?_⟩)) hS ?_
          rotate_left
          · first | (intro w; go_simp; done) | (intro w; go_simp; with_reducible rfl)
          refine wpAnyH_take (i := 9) (v := ?_) rfl (by kernel_rfl) (by kernel_rfl) (by kernel_rfl) (fun _ _ _ h => h) (Or.inl ⟨by kernel_rfl, fun W hW => ?_⟩) hS ?_
          rotate_left
          · obtain ⟨f0, f1, f2, f3, f4, f5, f6, f7⟩ := HF.out W hW
            first | (go_simp; done) | (go_simp; with_reducible rfl)
          refine wpAnyH_take (i := 10) (v := ?_) rfl (by kernel_rfl) (by kernel_rfl) (by kernel_rfl) (fun _ _ _ h => h) (Or.inl ⟨by kernel_rfl, fun W hW => ?_⟩) hS ?_
          rotate_left
          · obtain ⟨f0, f1, f2, f3, f4, f5, f6, f7⟩ := HF.out W hW
            first | (go_simp; done) | (go_simp; with_reducible rfl)
          refine wpAnyH_take (i := 17) (v := ?_) rfl (by kernel_rfl) (by kernel_rfl) (by kernel_rfl) (fun _ _ _ h => h) (Or.inl ⟨by kernel_rfl, fun W hW => ?_⟩) hS ?_
          rotate_left
          · obtain ⟨f0, f1, f2, f3, f4, f5, f6, f7⟩ := HF.out W hW
            first | (go_simp; done) | (go_simp; with_reducible rfl)
          refine wpAnyH_take (i := 18) (v := ?_) rfl (by kernel_rfl) (by kernel_rfl) (by kernel_rfl) (fun _ _ _ h => h) (Or.inl ⟨by kernel_rfl, fun W hW => ?_⟩) hS ?_
          rotate_left
          · obtain ⟨f0, f1, f2, f3, f4, f5, f6, f7⟩ := HF.out W hW
            first | (go_simp; done) | (go_simp; with_reducible rfl)
          refine wpAnyH_ready (rs := [11]) (by kernel_rfl) (by simp) ?_
          refine AllReadyH.cons rfl (fun K hK => ?_) AllReadyH.nil
          go_simp
          go_wp2_with (go_at_call 21; refine ((leq_arg (HA.out.up hS.1.bel) (HB.out.up hS.1.bel))).mono ?_; rintro e w91 ⟨rfl, hb91⟩)
          rw [HR3.out]
          have hS3 : XS w [(w.heap.size, 0, .int .i64 oa), (w.heap.size, 1, .slice Aa na ca), (w.heap.size + 1, 0, .int .i64 ob), (w.heap.size + 1, 1, .slice Ab nb cb), (w.heap.size + 1 + 1, 0, .int .i64 oc), (w.heap.size + 1 + 1, 1, .slice Ac nc cc), (w2.heap.size, 0, .int .i64 oj), (w2.heap.size, 1, .slice Aj nj cj)] [] w91 ∧ Below wd.heap.size wd w91 := ⟨hS.1.next hb91, hS.2.trans (hb91.mono hS.2.size)⟩
          clear hb91 hS
          refine hK.out _ _ hS3 (fun hS => ?_)
          clear hK K hS3
          refine wpAnyH_take (i := 12) (v := ?_) rfl (by kernel_rfl) (by kernel_rfl) (by kernel_rfl) (fun _ _ _ h => h) (Yields.yieldsIf (Or.inl ⟨by kernel_rfl, ?_⟩)) hS ?_
          rotate_left
          · first | (intro w; go_simp; done) | (intro w; go_simp; with_reducible rfl)
          refine wpAnyH_take (i := 13) (v := undef) rfl (by kernel_rfl) (by kernel_rfl) (by kernel_rfl) (fun _ _ _ h => h) (Or.inr ⟨by kernel_rfl, rfl⟩) hS ?_
          refine wpAnyH_take (i := 14) (v := undef) rfl (by kernel_rfl) (by kernel_rfl) (by kernel_rfl) (fun _ _ _ h => h) (Or.inr ⟨by kernel_rfl, rfl⟩) hS ?_
          refine wpAnyH_take (i := 15) (v := undef) rfl (by kernel_rfl) (by kernel_rfl) (by kernel_rfl) (fun _ _ _ h => h) (Or.inr ⟨by kernel_rfl, rfl⟩) hS ?_
          go_simp
          refine wpAnyH_take (i := 16) (v := ?_) rfl (by kernel_rfl) (by kernel_rfl) (by kernel_rfl) (fun _ _ _ h => h) (Yields.yieldsIf (Or.inl ⟨by kernel_rfl, ?_⟩)) hS ?_
          rotate_left
          · first | (intro w; go_simp; done) | (intro w; go_simp; with_reducible rfl)
          refine wpAnyH_ready (rs := [19]) (by kernel_rfl) (by simp) ?_
          refine AllReadyH.cons rfl (fun K hK => ?_) AllReadyH.nil
          go_simp
          go_wp2_with (go_at_call 23; refine ((same_arg (HA.out.up hS.1.bel) (HB.out.up hS.1.bel))).mono ?_; rintro e w92 ⟨rfl, hb92⟩)
          rw [HRS.out]
          simp only [Bool.false_and]
          have hS3 : XS w [(w.heap.size, 0, .int .i64 oa), (w.heap.size, 1, .slice Aa na ca), (w.heap.size + 1, 0, .int .i64 ob), (w.heap.size + 1, 1, .slice Ab nb cb), (w.heap.size + 1 + 1, 0, .int .i64 oc), (w.heap.size + 1 + 1, 1, .slice Ac nc cc), (w2.heap.size, 0, .int .i64 oj), (w2.heap.size, 1, .slice Aj nj cj)] [] w92 ∧ Below wd.heap.size wd w92 := ⟨hS.1.next hb92, hS.2.trans (hb92.mono hS.2.size)⟩
          clear hb92 hS
          refine hK.out _ _ hS3 (fun hS => ?_)
          clear hK K hS3
          refine wpAnyH_take (i := 20) (v := ?_) rfl (by kernel_rfl) (by kernel_rfl) (by kernel_rfl) (fun _ _ _ h => h) (Yields.yieldsIf (Or.inl ⟨by kernel_rfl, ?_⟩)) hS ?_
          rotate_left
          · first | (intro w; go_simp; done) | (intro w; go_simp; with_reducible rfl)
          refine wpAnyH_take (i := 21) (v := ?_) rfl (by kernel_rfl) (by kernel_rfl) (by kernel_rfl) (fun _ _ _ h => h) (Yields.yieldsIf (Or.inl ⟨by kernel_rfl, ?_⟩)) hS ?_
          rotate_left
          · first | (intro w; go_simp; done) | (intro w; go_simp; with_reducible rfl)
          refine wpAnyH_take (i := 22) (v := ?_) rfl (by kernel_rfl) (by kernel_rfl) (by kernel_rfl) (fun _ _ _ h => h) (Yields.yieldsIf (Or.inl ⟨by kernel_rfl, ?_⟩)) hS ?_
          rotate_left
          · first | (intro w; go_simp; done) | (intro w; go_simp; with_reducible rfl)
          go_simp
          try go_simp
          refine wpAnyH_done (by kernel_rfl) ?_ _
          clear HF
          go_wp2
          go_ret
          exact ⟨ret_bool (by simp), hS.1.bel⟩
        | true =>
          have hbD : Below w8.heap.size w8 w8.drew := (Below.refl _ _).drew
          have Dj := Lib.hid (Tj8.out.up hbD)
          clear Tj8
          have hXD : XS w [(w.heap.size, 0, .int .i64 oa), (w.heap.size, 1, .slice Aa na ca), (w.heap.size + 1, 0, .int .i64 ob), (w.heap.size + 1, 1, .slice Ab nb cb), (w.heap.size + 1 + 1, 0, .int .i64 oc), (w.heap.size + 1 + 1, 1, .slice Ac nc cc), (w2.heap.size, 0, .int .i64 oj), (w2.heap.size, 1, .slice Aj nj cj)] [] w8.drew ∧ Below w8.drew.heap.size w8.drew w8.drew := ⟨(HX8.out.drew).sub (fun _ h => h) (by simp), Below.refl _ _⟩
          clear hbD HX8 p0 p1 p2 p3 p4 p5 p6 p7
          go_wp2
          refine wp_region_held_drew (S := fun W => XS w [(w.heap.size, 0, .int .i64 oa), (w.heap.size, 1, .slice Aa na ca), (w.heap.size + 1, 0, .int .i64 ob), (w.heap.size + 1, 1, .slice Ab nb cb), (w.heap.size + 1 + 1, 0, .int .i64 oc), (w.heap.size + 1 + 1, 1, .slice Ac nc cc), (w2.heap.size, 0, .int .i64 oj), (w2.heap.size, 1, .slice Aj nj cj)] [] W ∧ Below w8.drew.heap.size w8.drew W) (by kernel_rfl) hXD (fun hS => ?_)
          clear hXD
          generalize w8.drew = wd at hS Dj ⊢
          have HF : Hid (∀ W, (XS w [(w.heap.size, 0, .int .i64 oa), (w.heap.size, 1, .slice Aa na ca), (w.heap.size + 1, 0, .int .i64 ob), (w.heap.size + 1, 1, .slice Ab nb cb), (w.heap.size + 1 + 1, 0, .int .i64 oc), (w.heap.size + 1 + 1, 1, .slice Ac nc cc), (w2.heap.size, 0, .int .i64 oj), (w2.heap.size, 1, .slice Aj nj cj)] [] W ∧ Below wd.heap.size wd W) → W.cell? ⟨w.heap.size, 0, none⟩ = some (.int .i64 oa) ∧ W.cell? ⟨w.heap.size, 1, none⟩ = some (.slice Aa na ca) ∧ W.cell? ⟨w.heap.size + 1, 0, none⟩ = some (.int .i64 ob) ∧ W.cell? ⟨w.heap.size + 1, 1, none⟩ = some (.slice Ab nb cb) ∧ W.cell? ⟨w.heap.size + 1 + 1, 0, none⟩ = some (.int .i64 oc) ∧ W.cell? ⟨w.heap.size + 1 + 1, 1, none⟩ = some (.slice Ac nc cc) ∧ W.cell? ⟨w2.heap.size, 0, none⟩ = some (.int .i64 oj) ∧ W.cell? ⟨w2.heap.size, 1, none⟩ = some (.slice Aj nj cj)) := fun W hW => ⟨hW.1.get (by simp), hW.1.get (by simp), hW.1.get (by simp), hW.1.get (by simp), hW.1.get (by simp), hW.1.get (by simp), hW.1.get (by simp), hW.1.get (by simp)⟩
          refine wpAnyH_take (i := 0) (v := ?_) rfl (by kernel_rfl) (by kernel_rfl) (by kernel_rfl) (fun _ _ _ h => h) (Yields.yieldsIf (Or.inl ⟨by kernel_rfl, ?_⟩)) hS ?_
          rotate_left
          · first | (intro w; go_simp; done) | (intro w; go_simp; with_reducible rfl)
          refine wpAnyH_take (i := 1) (v := ?_) rfl (by kernel_rfl) (by kernel_rfl) (by kernel_rfl) (fun _ _ _ h => h) (Yields.yieldsIf (Or.inl ⟨by kernel_rfl, ?_⟩)) hS ?_
          rotate_left
          · first | (intro w; go_simp; done) | (intro w; go_simp; with_reducible rfl)
          refine wpAnyH_take (i := 2) (v := ?_) rfl (by kernel_rfl) (by kernel_rfl) (by kernel_rfl) (fun _ _ _ h => h) (Yields.yieldsIf (Or.inl ⟨by kernel_rfl, ?_⟩)) hS ?_
          rotate_left
          · first | (intro w; go_simp; done) | (intro w; go_simp; with_reducible rfl)
          refine wpAnyH_take (i := 3) (v := ?_) rfl (by kernel_rfl) (by kernel_rfl) (by kernel_rfl) (fun _ _ _ h => h) (Or.inl ⟨by kernel_rfl, fun W hW => ?_⟩) hS ?_
          rotate_left
          · obtain ⟨f0, f1, f2, f3, f4, f5, f6, f7⟩ := HF.out W hW
            first | (go_simp; done) | (go_simp; with_reducible rfl)
          refine wpAnyH_take (i := 4) (v := ?_) rfl (by kernel_rfl) (by kernel_rfl) (by kernel_rfl) (fun _ _ _ h => h) (Or.inl ⟨by kernel_rfl, fun W hW => ?_⟩) hS ?_
          rotate_left
          · obtain ⟨f0, f1, f2, f3, f4, f5, f6, f7⟩ := HF.out W hW
            first | (go_simp; done) | (go_simp; with_reducible rfl)
          refine wpAnyH_ready (rs := [5]) (by kernel_rfl) (by simp) ?_
          refine AllReadyH.cons rfl (fun K hK => ?_) AllReadyH.nil
          go_simp
          go_wp2_with (go_at_call 21; refine ((leq_arg (arg_of (Dj.out.up hS.2)) (HC.out.up hS.1.bel))).mono ?_; rintro e w90 ⟨rfl, hb90⟩)
          rw [HRJ.out]
          simp only [Bool.true_and]
          have hS3 : XS w [(w.heap.size, 0, .int .i64 oa), (w.heap.size, 1, .slice Aa na ca), (w.heap.size + 1, 0, .int .i64 ob), (w.heap.size + 1, 1, .slice Ab nb cb), (w.heap.size + 1 + 1, 0, .int .i64 oc), (w.heap.size + 1 + 1, 1, .slice Ac nc cc), (w2.heap.size, 0, .int .i64 oj), (w2.heap.size, 1, .slice Aj nj cj)] [] w90 ∧ Below wd.heap.size wd w90 := ⟨hS.1.next hb90, hS.2.trans (hb90.mono hS.2.size)⟩
          clear hb90 hS
          refine hK.out _ _ hS3 (fun hS => ?_)
          clear hK K hS3
          refine wpAnyH_take (i := 6) (v := ?_) rfl (by kernel_rfl) (by kernel_rfl) (by kernel_rfl) (fun _ _ _ h => h) (Yields.yieldsIf (Or.inl ⟨by kernel_rfl, ?_⟩)) hS ?_
          rotate_left
          · first | (intro w; go_simp; done) | (intro w; go_simp; with_reducible rfl)
          refine wpAnyH_take (i := 7) (v := ?_) rfl (by kernel_rfl) (by kernel_rfl) (by kernel_rfl) (fun _ _ _ h => h) (Yields.yieldsIf (Or.inl ⟨by kernel_rfl, ?_⟩)) hS ?_
          rotate_left
          · first | (intro w; go_simp; done) | (intro w; go_simp; with_reducible rfl)
          refine wpAnyH_take (i := 8) (v := ?_) rfl (by kernel_rfl) (by kernel_rfl) (by kernel_rfl) (fun _ _ _ h => h) (Yields.yieldsIf (Or.inl ⟨by kernel_rfl, ?_⟩)) hS ?_
          rotate_left
          · first | (intro w; go_simp; done) | (intro w; go_simp; with_reducible rfl)
          refine wpAnyH_take (i := 9) (v := ?_) rfl (by kernel_rfl) (by kernel_rfl) (by kernel_rfl) (fun _ _ _ h => h) (Or.inl ⟨by kernel_rfl, fun W hW => ?_⟩) hS ?_
          rotate_left
          · obtain ⟨f0, f1, f2, f3, f4, f5, f6, f7⟩ := HF.out W hW
            first | (go_simp; done) | (go_simp; with_reducible rfl)
          refine wpAnyH_take (i := 10) (v := ?_) rfl (by kernel_rfl) (by kernel_rfl) (by kernel_rfl) (fun _ _ _ h => h) (Or.inl ⟨by kernel_rfl, fun W hW => ?_⟩) hS ?_
          rotate_left
          · obtain ⟨f0, f1, f2, f3, f4, f5, f6, f7⟩ := HF.out W hW
            first | (go_simp; done) | (go_simp; with_reducible rfl)
          refine wpAnyH_take (i := 17) (v := ?_) rfl (by kernel_rfl) (by kernel_rfl) (by kernel_rfl) (fun _ _ _ h => h) (Or.inl ⟨by kernel_rfl, fun W hW => ?_⟩) hS ?_
          rotate_left
          · obtain ⟨f0, f1, f2, f3, f4, f5, f6, f7⟩ := HF.out W hW
            first | (go_simp; done) | (go_simp; with_reducible rfl)
          refine wpAnyH_take (i := 18) (v := ?_) rfl (by kernel_rfl) (by kernel_rfl) (by kernel_rfl) (fun _ _ _ h => h) (Or.inl ⟨by kernel_rfl, fun W hW => ?_⟩) hS ?_
          rotate_left
          · obtain ⟨f0, f1, f2, f3, f4, f5, f6, f7⟩ := HF.out W hW
            first | (go_simp; done) | (go_simp; with_reducible rfl)
          refine wpAnyH_ready (rs := [11]) (by kernel_rfl) (by simp) ?_
          refine AllReadyH.cons rfl (fun K hK => ?_) AllReadyH.nil
          go_simp
          go_wp2_with (go_at_call 21; refine ((leq_arg (HA.out.up hS.1.bel) (HB.out.up hS.1.bel))).mono ?_; rintro e w91 ⟨rfl, hb91⟩)
          rw [HR3.out]
          have hS3 : XS w [(w.heap.size, 0, .int .i64 oa), (w.heap.size, 1, .slice Aa na ca), (w.heap.size + 1, 0, .int .i64 ob), (w.heap.size + 1, 1, .slice Ab nb cb), (w.heap.size + 1 + 1, 0, .int .i64 oc), (w.heap.size + 1 + 1, 1, .slice Ac nc cc), (w2.heap.size, 0, .int .i64 oj), (w2.heap.size, 1, .slice Aj nj cj)] [] w91 ∧ Below wd.heap.size wd w91 := ⟨hS.1.next hb91, hS.2.trans (hb91.mono hS.2.size)⟩
          clear hb91 hS
          refine hK.out _ _ hS3 (fun hS => ?_)
          clear hK K hS3
          refine wpAnyH_take (i := 12) (v := ?_) rfl (by kernel_rfl) (by kernel_rfl) (by kernel_rfl) (fun _ _ _ h => h) (Yields.yieldsIf (Or.inl ⟨by kernel_rfl, ?_⟩)) hS ?_
          rotate_left
          · first | (intro w; go_simp; done) | (intro w; go_simp; with_reducible rfl)
          refine wpAnyH_take (i := 13) (v := ?_) rfl (by kernel_rfl) (by kernel_rfl) (by kernel_rfl) (fun _ _ _ h => h) (Or.inl ⟨by kernel_rfl, fun W hW => ?_⟩) hS ?_
          rotate_left
          · obtain ⟨f0, f1, f2, f3, f4, f5, f6, f7⟩ := HF.out W hW
            first | (go_simp; done) | (go_simp; with_reducible rfl)
          refine wpAnyH_take (i := 14) (v := ?_) rfl (by kernel_rfl) (by kernel_rfl) (by kernel_rfl) (fun _ _ _ h => h) (Or.inl ⟨by kernel_rfl, fun W hW => ?_⟩) hS ?_
          rotate_left
          · obtain ⟨f0, f1, f2, f3, f4, f5, f6, f7⟩ := HF.out W hW
            first | (go_simp; done) | (go_simp; with_reducible rfl)
          refine wpAnyH_ready (rs := [15]) (by kernel_rfl) (by simp) ?_
          refine AllReadyH.cons rfl (fun K hK => ?_) AllReadyH.nil
          go_simp
          go_wp2_with (go_at_call 21; refine ((leq_arg (HB.out.up hS.1.bel) (HA.out.up hS.1.bel))).mono ?_; rintro e w92 ⟨rfl, hb92⟩)
          rw [HR4.out]
          have hS3 : XS w [(w.heap.size, 0, .int .i64 oa), (w.heap.size, 1, .slice Aa na ca), (w.heap.size + 1, 0, .int .i64 ob), (w.heap.size + 1, 1, .slice Ab nb cb), (w.heap.size + 1 + 1, 0, .int .i64 oc), (w.heap.size + 1 + 1, 1, .slice Ac nc cc), (w2.heap.size, 0, .int .i64 oj), (w2.heap.size, 1, .slice Aj nj cj)] [] w92 ∧ Below wd.heap.size wd w92 := ⟨hS.1.next hb92, hS.2.trans (hb92.mono hS.2.size)⟩
          clear hb92 hS
          refine hK.out _ _ hS3 (fun hS => ?_)
          clear hK K hS3
          refine wpAnyH_take (i := 16) (v := ?_) rfl (by kernel_rfl) (by kernel_rfl) (by kernel_rfl) (fun _ _ _ h => h) (Yields.yieldsIf (Or.inl ⟨by kernel_rfl, ?_⟩)) hS ?_
          rotate_left
          · first | (intro w; go_simp; done) | (intro w; go_simp; with_reducible rfl)
          refine wpAnyH_ready (rs := [19]) (by kernel_rfl) (by simp) ?_
          refine AllReadyH.cons rfl (fun K hK => ?_) AllReadyH.nil
          go_simp
          go_wp2_with (go_at_call 23; refine ((same_arg (HA.out.up hS.1.bel) (HB.out.up hS.1.bel))).mono ?_; rintro e w93 ⟨rfl, hb93⟩)
          rw [HRS.out]
          simp only [Bool.true_and]
          have hS3 : XS w [(w.heap.size, 0, .int .i64 oa), (w.heap.size, 1, .slice Aa na ca), (w.heap.size + 1, 0, .int .i64 ob), (w.heap.size + 1, 1, .slice Ab nb cb), (w.heap.size + 1 + 1, 0, .int .i64 oc), (w.heap.size + 1 + 1, 1, .slice Ac nc cc), (w2.heap.size, 0, .int .i64 oj), (w2.heap.size, 1, .slice Aj nj cj)] [] w93 ∧ Below wd.heap.size wd w93 := ⟨hS.1.next hb93, hS.2.trans (hb93.mono hS.2.size)⟩
          clear hb93 hS
          refine hK.out _ _ hS3 (fun hS => ?_)
          clear hK K hS3
          refine wpAnyH_take (i := 20) (v := ?_) rfl (by kernel_rfl) (by kernel_rfl) (by kernel_rfl) (fun _ _ _ h => h) (Yields.yieldsIf (Or.inl ⟨by kernel_rfl, ?_⟩)) hS ?_
          rotate_left
          · first | (intro w; go_simp; done) | (intro w; go_simp; with_reducible rfl)
          refine wpAnyH_take (i := 21) (v := ?_) rfl (by kernel_rfl) (by kernel_rfl) (by kernel_rfl) (fun _ _ _ h => h) (Yields.yieldsIf (Or.inl ⟨by kernel_rfl, ?_⟩)) hS ?_
          rotate_left
          · first | (intro w; go_simp; done) | (intro w; go_simp; with_reducible rfl)
          refine wpAnyH_take (i := 22) (v := ?_) rfl (by kernel_rfl) (by kernel_rfl) (by kernel_rfl) (fun _ _ _ h => h) (Yields.yieldsIf (Or.inl ⟨by kernel_rfl, ?_⟩)) hS ?_
          rotate_left
          · first | (intro w; go_simp; done) | (intro w; go_simp; with_reducible rfl)
          try go_simp
          refine wpAnyH_done (by kernel_rfl) ?_ _
          clear HF
          go_wp2
          go_ret
          exact ⟨ret_bool (by simp), hS.1.bel⟩
  · have hzb : (zj == 0) = false := beq_eq_false_iff_ne.2 hzj
    have hzn : (zj != 0) = true := bne_iff_ne.2 hzj
    clear hzj
    go_wp2
    go_ret
    exact ⟨rfl, HX2.out.bel⟩
end Go.Proofs.YtflghlmikpfnpaaDoor.E
