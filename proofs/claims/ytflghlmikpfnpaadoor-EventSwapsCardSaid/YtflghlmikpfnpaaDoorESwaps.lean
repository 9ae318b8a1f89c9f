/-
  EventSwaps: the walk of the law.
-/
import Derived.Test.YtflghlmikpfnpaaDoorEThree
namespace Go.Proofs.YtflghlmikpfnpaaDoor.E
open Go.RowKit

theorem joinR_comm (A B : Option Tr) : joinR A B = joinR B A := by
  cases A with
  | none => cases B <;> rfl
  | some a =>
    cases B with
    | none => rfl
    | some b => simp only [joinR, join_comm a b]
theorem swap_math {A B : Option Tr} {x : Tr} (h : joinR A B = (x, 0)) : ∃ a, A = some a ∧ fit x = some x ∧ joinR (fit x) B = (x, 0) ∧ low a ≤ low x ∧ high a ≤ high x := by
  obtain ⟨a, b, rfl, rfl, rfl, ox⟩ := joinR_zero h
  refine ⟨a, rfl, fit_of ox, ?_, ?_, ?_⟩
  · rw [fit_of ox]
    simp only [joinR, join_right, ox, if_true]
  · obtain ⟨f, hf⟩ := low_at (Tr.join a b 0 0)
    have := low_le a f
    rw [den_join] at hf
    omega
  · obtain ⟨f, hf⟩ := high_at a
    have := le_high (Tr.join a b 0 0) f
    rw [den_join] at this
    omega

set_option maxRecDepth 100000 in
set_option maxHeartbeats 6400000 in
theorem swaps_walk (TA : Option Tr) (a : Value) (TB : Option Tr) (b : Value) (w : World) (htab : Tab w) (ha : Arg w TA a) (hb : Arg w TB b) : Calls Tryd.prog 8 #[a, b] w fun e w' => e = .returned (.bool true) ∧ Below w.heap.size w w' := by
  obtain ⟨oa, Aa, na, ca, rfl⟩ := ha.form
  have HA := Lib.hid ha
  obtain ⟨ob, Ab, nb, cb, rfl⟩ := hb.form
  have HB := Lib.hid hb
  have HTB := Lib.hid htab
  have HX0 := Lib.hid (((XS.begin w).boxed (.int .i64 oa) (.slice Aa na ca) 24).boxed (.int .i64 ob) (.slice Ab nb cb) 24)
  simp only [List.nil_append, List.cons_append, World.size_alloc] at HX0
  clear htab ha hb
  unfold tv
  go_enter Tryd.func8, Tryd.ntmps8
  go_wp2_with fail
  refine (shown_any _ (HTB.out.up HX0.out.bel)).mono ?_
  rintro e w1 ⟨rfl, hb1⟩
  have HX1 := Lib.hid (HX0.out.next hb1)
  clear hb1 HX0
  have f := HX1.out.at0
  simp only [List.mem_cons, List.not_mem_nil, or_false, forall_eq_or_imp, forall_eq] at f
  obtain ⟨p0, p1, p2, p3⟩ := f
  have hcall := join_arg (HA.out.up HX1.out.bel) (HB.out.up HX1.out.bel)
  obtain ⟨rx, EX0⟩ : ∃ r, joinR TA TB = r := ⟨_, rfl⟩
  rw [EX0] at hcall
  obtain ⟨tx, zx⟩ := rx
  have EX := Lib.hid EX0
  clear EX0
  unfold tv at hcall
  go_wp2_with fail
  refine hcall.mono ?_
  rintro e w2 ⟨vx, rfl, hTx, hb2⟩
  obtain ⟨Ax, nx, cx, rfl⟩ := hTx.form
  simp only at hTx
  obtain ⟨ox, hox⟩ : ∃ o, tx.N = o := ⟨_, rfl⟩
  rw [hox] at hTx ⊢
  clear hox
  have hXX := HX1.out.next hb2
  have HX2 := Lib.hid (hXX.boxed (.int .i64 ox) (.slice Ax nx cx) 24)
  simp only [List.nil_append, List.cons_append] at HX2
  have hbx : Below w2.heap.size w2 (w2.alloc (.cells #[.int .i64 ox, .slice Ax nx cx] 24)) := (Below.refl _ w2).alloc (Nat.le_refl _) _
  have hby : Below w1.heap.size w1 (w2.alloc (.cells #[.int .i64 ox, .slice Ax nx cx] 24)) := hb2.trans (hbx.mono hb2.size)
  have Tx2 := Lib.hid (hTx.old.up hbx)
  clear hcall hXX hbx hby hb2 hTx HX1 p0 p1 p2 p3
  unfold tv
  have f := HX2.out.at0
  simp only [List.mem_cons, List.not_mem_nil, or_false, forall_eq_or_imp, forall_eq] at f
  obtain ⟨p0, p1, p2, p3, p4, p5⟩ := f
  have hcall := join_arg (HB.out.up HX2.out.bel) (HA.out.up HX2.out.bel)
  obtain ⟨ry, EY0⟩ : ∃ r, joinR TB TA = r := ⟨_, rfl⟩
  rw [EY0] at hcall
  obtain ⟨ty, zy⟩ := ry
  have EY := Lib.hid EY0
  clear EY0
  unfold tv at hcall
  go_wp2_with fail
  refine hcall.mono ?_
  rintro e w3 ⟨vy, rfl, hTy, hb3⟩
  obtain ⟨Ay, ny, cy, rfl⟩ := hTy.form
  simp only at hTy
  obtain ⟨oy, hoy⟩ : ∃ o, ty.N = o := ⟨_, rfl⟩
  rw [hoy] at hTy ⊢
  clear hoy
  have hXX := HX2.out.next hb3
  have HX3 := Lib.hid (hXX.boxed (.int .i64 oy) (.slice Ay ny cy) 24)
  simp only [List.nil_append, List.cons_append] at HX3
  have hbx : Below w3.heap.size w3 (w3.alloc (.cells #[.int .i64 oy, .slice Ay ny cy] 24)) := (Below.refl _ w3).alloc (Nat.le_refl _) _
  have hby : Below (w2.alloc (.cells #[.int .i64 ox, .slice Ax nx cx] 24)).heap.size (w2.alloc (.cells #[.int .i64 ox, .slice Ax nx cx] 24)) (w3.alloc (.cells #[.int .i64 oy, .slice Ay ny cy] 24)) := hb3.trans (hbx.mono hb3.size)
  have Tx3 := Lib.hid (Tx2.out.up hby)
  clear Tx2
  have Ty3 := Lib.hid (hTy.old.up hbx)
  clear hcall hXX hbx hby hb3 hTy HX2 p0 p1 p2 p3 p4 p5
  unfold tv
  have f := HX3.out.at0
  simp only [List.mem_cons, List.not_mem_nil, or_false, forall_eq_or_imp, forall_eq] at f
  obtain ⟨p0, p1, p2, p3, p4, p5, p6, p7⟩ := f
  have hxy : (tx, zx) = (ty, zy) := by rw [← EX.out, ← EY.out]; exact joinR_comm TA TB
  injection hxy with e1 e2
  subst e1
  subst e2
  clear EY
  by_cases hzx : zx = 0
  · subst hzx
    have hM := swap_math EX.out
    obtain ⟨ta, eTA, eF, eJ, hlo, hhi⟩ := hM
    have EF := Lib.hid eF
    have EJ := Lib.hid eJ
    have ETA := Lib.hid eTA
    clear eF eJ eTA
    have hcall := join_arg (arg_of Tx3.out) (HB.out.up HX3.out.bel)
    obtain ⟨rz, EZ0⟩ : ∃ r, joinR (fit tx) TB = r := ⟨_, rfl⟩
    rw [EZ0] at hcall
    obtain ⟨tz, zz⟩ := rz
    have EZ := Lib.hid EZ0
    clear EZ0
    unfold tv at hcall
    go_wp2_with fail
    refine hcall.mono ?_
    rintro e w4 ⟨vz, rfl, hTz, hb4⟩
    obtain ⟨Az, nz, cz, rfl⟩ := hTz.form
    simp only at hTz
    obtain ⟨oz, hoz⟩ : ∃ o, tz.N = o := ⟨_, rfl⟩
    rw [hoz] at hTz ⊢
    clear hoz
    have hXX := HX3.out.next hb4
    have HX4 := Lib.hid (hXX.boxed (.int .i64 oz) (.slice Az nz cz) 24)
    simp only [List.nil_append, List.cons_append] at HX4
    have hbx : Below w4.heap.size w4 (w4.alloc (.cells #[.int .i64 oz, .slice Az nz cz] 24)) := (Below.refl _ w4).alloc (Nat.le_refl _) _
    have hby : Below (w3.alloc (.cells #[.int .i64 oy, .slice Ay ny cy] 24)).heap.size (w3.alloc (.cells #[.int .i64 oy, .slice Ay ny cy] 24)) (w4.alloc (.cells #[.int .i64 oz, .slice Az nz cz] 24)) := hb4.trans (hbx.mono hb4.size)
    have Tx4 := Lib.hid (Tx3.out.up hby)
    clear Tx3
    have Ty4 := Lib.hid (Ty3.out.up hby)
    clear Ty3
    have Tz4 := Lib.hid (hTz.old.up hbx)
    clear hcall hXX hbx hby hb4 hTz HX3 p0 p1 p2 p3 p4 p5 p6 p7
    unfold tv
    have f := HX4.out.at0
    simp only [List.mem_cons, List.not_mem_nil, or_false, forall_eq_or_imp, forall_eq] at f
    obtain ⟨p0, p1, p2, p3, p4, p5, p6, p7, p8, p9⟩ := f
    have hxz : (tz, zz) = (tx, 0) := EZ.out.symm.trans EJ.out
    injection hxz with e1 e2
    subst e1
    subst e2
    clear EZ EJ
    have HE1 : Hid (endsR (fit tz) = .tuple #[.int .i64 (low tz), .int .i64 (high tz), .int .i64 0]) := by show _ = _; rw [EF.out]; rfl
    have HE2 : Hid (endsR TA = .tuple #[.int .i64 (low ta), .int .i64 (high ta), .int .i64 0]) := by show _ = _; rw [ETA.out]; rfl
    generalize low tz = l1 at *
    generalize high tz = m1 at *
    generalize low ta = l2 at *
    generalize high ta = m2 at *
    have hcall := ends_arg (arg_of Tx4.out)
    rw [HE1.out] at hcall
    unfold tv at hcall
    go_wp2_with fail
    refine hcall.mono ?_
    rintro e w5 ⟨rfl, hb5⟩
    have HX5 := Lib.hid (HX4.out.next hb5)
    have Tx5 := Lib.hid (Tx4.out.up hb5)
    clear Tx4
    have Ty5 := Lib.hid (Ty4.out.up hb5)
    clear Ty4
    have Tz5 := Lib.hid (Tz4.out.up hb5)
    clear Tz4
    clear hcall hb5 HX4 p0 p1 p2 p3 p4 p5 p6 p7 p8 p9
    have f := HX5.out.at0
    simp only [List.mem_cons, List.not_mem_nil, or_false, forall_eq_or_imp, forall_eq] at f
    obtain ⟨p0, p1, p2, p3, p4, p5, p6, p7, p8, p9⟩ := f
    have hcall := ends_arg (HA.out.up HX5.out.bel)
    rw [HE2.out] at hcall
    unfold tv at hcall
    go_wp2_with fail
    refine hcall.mono ?_
    rintro e w6 ⟨rfl, hb6⟩
    have HX6 := Lib.hid (HX5.out.next hb6)
    have Tx6 := Lib.hid (Tx5.out.up hb6)
    clear Tx5
    have Ty6 := Lib.hid (Ty5.out.up hb6)
    clear Ty5
    have Tz6 := Lib.hid (Tz5.out.up hb6)
    clear Tz5
    clear hcall hb6 HX5 p0 p1 p2 p3 p4 p5 p6 p7 p8 p9
    have f := HX6.out.at0
    simp only [List.mem_cons, List.not_mem_nil, or_false, forall_eq_or_imp, forall_eq] at f
    obtain ⟨p0, p1, p2, p3, p4, p5, p6, p7, p8, p9⟩ := f
    have hcall := equal_any tz tz _ _ _ _ w6 Tx6.out Ty6.out
    rw [eqT_refl] at hcall
    unfold tv at hcall
    go_wp2_with fail
    refine hcall.mono ?_
    rintro e w7 ⟨rfl, hb7⟩
    have HX7 := Lib.hid (HX6.out.next hb7)
    have Tx7 := Lib.hid (Tx6.out.up hb7)
    clear Tx6
    have Ty7 := Lib.hid (Ty6.out.up hb7)
    clear Ty6
    have Tz7 := Lib.hid (Tz6.out.up hb7)
    clear Tz6
    clear hcall hb7 HX6 p0 p1 p2 p3 p4 p5 p6 p7 p8 p9
    have f := HX7.out.at0
    simp only [List.mem_cons, List.not_mem_nil, or_false, forall_eq_or_imp, forall_eq] at f
    obtain ⟨p0, p1, p2, p3, p4, p5, p6, p7, p8, p9⟩ := f
    have hcall := equal_any tz tz _ _ _ _ w7 Tx7.out Tz7.out
    rw [eqT_refl] at hcall
    unfold tv at hcall
    go_wp2_with fail
    refine hcall.mono ?_
    rintro e w8 ⟨rfl, hb8⟩
    have HX8 := Lib.hid (HX7.out.next hb8)
    have Tx8 := Lib.hid (Tx7.out.up hb8)
    clear Tx7
    have Ty8 := Lib.hid (Ty7.out.up hb8)
    clear Ty7
    have Tz8 := Lib.hid (Tz7.out.up hb8)
    clear Tz7
    clear hcall hb8 HX7 p0 p1 p2 p3 p4 p5 p6 p7 p8 p9
    have f := HX8.out.at0
    simp only [List.mem_cons, List.not_mem_nil, or_false, forall_eq_or_imp, forall_eq] at f
    obtain ⟨p0, p1, p2, p3, p4, p5, p6, p7, p8, p9⟩ := f
    go_wp2
    go_ret
    exact ⟨rfl, HX8.out.bel⟩
  · have hzb : (zx == 0) = false := beq_eq_false_iff_ne.2 hzx
    clear hzx
    go_wp2
    go_ret
    exact ⟨ret_bool (by simp), HX3.out.bel⟩
end Go.Proofs.YtflghlmikpfnpaaDoor.E
