/-
  EventThree: the walk of the law.
-/
import Derived.Test.YtflghlmikpfnpaaDoorEShown
import Derived.Test.YtflghlmikpfnpaaDoorEEqual
namespace Go.Proofs.YtflghlmikpfnpaaDoor.E
open Go.RowKit

theorem joinR_zero {S T : Option Tr} {t : Tr} (h : joinR S T = (t, 0)) : ∃ a b, S = some a ∧ T = some b ∧ t = Tr.join a b 0 0 ∧ okT t = true := by
  unfold joinR at h
  split at h
  · rename_i a b
    split at h
    · rename_i ho
      injection h with h1 h2
      exact ⟨a, b, rfl, rfl, h1.symm, by rw [← h1]; exact ho⟩
    · injection h with h1 h2; cases h2
  · injection h with h1 h2; cases h2
theorem three_math {A B C : Option Tr} {x y : Tr} (h1 : joinR A B = (x, 0)) (h2 : joinR B C = (y, 0)) : joinR (fit x) C = joinR A (fit y) := by
  obtain ⟨a, b, rfl, rfl, rfl, ox⟩ := joinR_zero h1
  obtain ⟨b', c, e, rfl, rfl, oy⟩ := joinR_zero h2
  injection e with e
  subst e
  rw [fit_of ox, fit_of oy]
  simp only [joinR, join_assoc]

set_option maxRecDepth 100000 in
set_option maxHeartbeats 6400000 in
theorem three_walk (TA : Option Tr) (a : Value) (TB : Option Tr) (b : Value) (TC : Option Tr) (c : Value) (w : World) (htab : Tab w) (ha : Arg w TA a) (hb : Arg w TB b) (hc : Arg w TC c) : Calls Tryd.prog 10 #[a, b, c] w fun e w' => e = .returned (.bool true) ∧ Below w.heap.size w w' := by
  obtain ⟨oa, Aa, na, ca, rfl⟩ := ha.form
  have HA := Lib.hid ha
  obtain ⟨ob, Ab, nb, cb, rfl⟩ := hb.form
  have HB := Lib.hid hb
  obtain ⟨oc, Ac, nc, cc, rfl⟩ := hc.form
  have HC := Lib.hid hc
  have HTB := Lib.hid htab
  have HX0 := Lib.hid ((((XS.begin w).boxed (.int .i64 oa) (.slice Aa na ca) 24).boxed (.int .i64 ob) (.slice Ab nb cb) 24).boxed (.int .i64 oc) (.slice Ac nc cc) 24)
  simp only [List.nil_append, List.cons_append, World.size_alloc] at HX0
  clear htab ha hb hc
  unfold tv
  go_enter Tryd.func10, Tryd.ntmps10
  go_wp2_with fail
  refine (shown_any _ (HTB.out.up HX0.out.bel)).mono ?_
  rintro e w1 ⟨rfl, hb1⟩
  have HX1 := Lib.hid (HX0.out.next hb1)
  clear hb1 HX0
  have f := HX1.out.at0
  simp only [List.mem_cons, List.not_mem_nil, or_false, forall_eq_or_imp, forall_eq] at f
  obtain ⟨p0, p1, p2, p3, p4, p5⟩ := f
  have hcall := join_arg (HA.out.up HX1.out.bel) (HB.out.up HX1.out.bel)
  obtain ⟨rx, EX0⟩ : ∃ r, joinR TA TB = r := ⟨_, rfl⟩
  rw [EX0] at hcall
  obtain ⟨tx, zx⟩ := rx
  have EX := Lib.hid EX0
  clear EX0
  unfold tv at hcall
  go_wp2_with fail
  refine hcall.mono ?_
  rintro e w2 ⟨vx, rfl, hTx, hb2⟩
  obtain ⟨Ax, nx, cx, rfl⟩ := hTx.form
  simp only at hTx
  obtain ⟨ox, hox⟩ : ∃ o, tx.N = o := ⟨_, rfl⟩
  rw [hox] at hTx ⊢
  clear hox
  have hXX := HX1.out.next hb2
  have HX2 := Lib.hid (hXX.boxed (.int .i64 ox) (.slice Ax nx cx) 24)
  simp only [List.nil_append, List.cons_append] at HX2
  have hbx : Below w2.heap.size w2 (w2.alloc (.cells #[.int .i64 ox, .slice Ax nx cx] 24)) := (Below.refl _ w2).alloc (Nat.le_refl _) _
  have hby : Below w1.heap.size w1 (w2.alloc (.cells #[.int .i64 ox, .slice Ax nx cx] 24)) := hb2.trans (hbx.mono hb2.size)
  have Tx2 := Lib.hid (hTx.old.up hbx)
  clear hcall hXX hbx hby hb2 hTx HX1 p0 p1 p2 p3 p4 p5
  unfold tv
  have f := HX2.out.at0
  simp only [List.mem_cons, List.not_mem_nil, or_false, forall_eq_or_imp, forall_eq] at f
  obtain ⟨p0, p1, p2, p3, p4, p5, p6, p7⟩ := f
  have hcall := join_arg (HB.out.up HX2.out.bel) (HC.out.up HX2.out.bel)
  obtain ⟨ry, EY0⟩ : ∃ r, joinR TB TC = r := ⟨_, rfl⟩
  rw [EY0] at hcall
  obtain ⟨ty, zy⟩ := ry
  have EY := Lib.hid EY0
  clear EY0
  unfold tv at hcall
  go_wp2_with fail
  refine hcall.mono ?_
  rintro e w3 ⟨vy, rfl, hTy, hb3⟩
  obtain ⟨Ay, ny, cy, rfl⟩ := hTy.form
  simp only at hTy
  obtain ⟨oy, hoy⟩ : ∃ o, ty.N = o := ⟨_, rfl⟩
  rw [hoy] at hTy ⊢
  clear hoy
  have hXX := HX2.out.next hb3
  have HX3 := Lib.hid (hXX.boxed (.int .i64 oy) (.slice Ay ny cy) 24)
  simp only [List.nil_append, List.cons_append] at HX3
  have hbx : Below w3.heap.size w3 (w3.alloc (.cells #[.int .i64 oy, .slice Ay ny cy] 24)) := (Below.refl _ w3).alloc (Nat.le_refl _) _
  have hby : Below (w2.alloc (.cells #[.int .i64 ox, .slice Ax nx cx] 24)).heap.size (w2.alloc (.cells #[.int .i64 ox, .slice Ax nx cx] 24)) (w3.alloc (.cells #[.int .i64 oy, .slice Ay ny cy] 24)) := hb3.trans (hbx.mono hb3.size)
  have Tx3 := Lib.hid (Tx2.out.up hby)
  clear Tx2
  have Ty3 := Lib.hid (hTy.old.up hbx)
  clear hcall hXX hbx hby hb3 hTy HX2 p0 p1 p2 p3 p4 p5 p6 p7
  unfold tv
  have f := HX3.out.at0
  simp only [List.mem_cons, List.not_mem_nil, or_false, forall_eq_or_imp, forall_eq] at f
  obtain ⟨p0, p1, p2, p3, p4, p5, p6, p7, p8, p9⟩ := f
  by_cases hzx : zx = 0
  · subst hzx
    by_cases hzy : zy = 0
    · subst hzy
      have hcall := join_arg (arg_of Tx3.out) (HC.out.up HX3.out.bel)
      obtain ⟨rp, EP0⟩ : ∃ r, joinR (fit tx) TC = r := ⟨_, rfl⟩
      rw [EP0] at hcall
      obtain ⟨tp, zp⟩ := rp
      have EP := Lib.hid EP0
      clear EP0
      unfold tv at hcall
      go_wp2_with fail
      refine hcall.mono ?_
      rintro e w4 ⟨vp, rfl, hTp, hb4⟩
      obtain ⟨Ap, np, cp, rfl⟩ := hTp.form
      simp only at hTp
      obtain ⟨op, hop⟩ : ∃ o, tp.N = o := ⟨_, rfl⟩
      rw [hop] at hTp ⊢
      clear hop
      have hXX := HX3.out.next hb4
      have HX4 := Lib.hid (hXX.boxed (.int .i64 op) (.slice Ap np cp) 24)
      simp only [List.nil_append, List.cons_append] at HX4
      have hbx : Below w4.heap.size w4 (w4.alloc (.cells #[.int .i64 op, .slice Ap np cp] 24)) := (Below.refl _ w4).alloc (Nat.le_refl _) _
      have hby : Below (w3.alloc (.cells #[.int .i64 oy, .slice Ay ny cy] 24)).heap.size (w3.alloc (.cells #[.int .i64 oy, .slice Ay ny cy] 24)) (w4.alloc (.cells #[.int .i64 op, .slice Ap np cp] 24)) := hb4.trans (hbx.mono hb4.size)
      have Tx4 := Lib.hid (Tx3.out.up hby)
      clear Tx3
      have Ty4 := Lib.hid (Ty3.out.up hby)
      clear Ty3
      have Tp4 := Lib.hid (hTp.old.up hbx)
      clear hcall hXX hbx hby hb4 hTp HX3 p0 p1 p2 p3 p4 p5 p6 p7 p8 p9
      unfold tv
      have f := HX4.out.at0
      simp only [List.mem_cons, List.not_mem_nil, or_false, forall_eq_or_imp, forall_eq] at f
      obtain ⟨p0, p1, p2, p3, p4, p5, p6, p7, p8, p9, p10, p11⟩ := f
      have hcall := join_arg (HA.out.up HX4.out.bel) (arg_of Ty4.out)
      obtain ⟨rq, EQ0⟩ : ∃ r, joinR TA (fit ty) = r := ⟨_, rfl⟩
      rw [EQ0] at hcall
      obtain ⟨tq, zq⟩ := rq
      have EQ := Lib.hid EQ0
      clear EQ0
      unfold tv at hcall
      go_wp2_with fail
      refine hcall.mono ?_
      rintro e w5 ⟨vq, rfl, hTq, hb5⟩
      obtain ⟨Aq, nq, cq, rfl⟩ := hTq.form
      simp only at hTq
      obtain ⟨oq, hoq⟩ : ∃ o, tq.N = o := ⟨_, rfl⟩
      rw [hoq] at hTq ⊢
      clear hoq
      have hXX := HX4.out.next hb5
      have HX5 := Lib.hid (hXX.boxed (.int .i64 oq) (.slice Aq nq cq) 24)
      simp only [List.nil_append, List.cons_append] at HX5
      have hbx : Below w5.heap.size w5 (w5.alloc (.cells #[.int .i64 oq, .slice Aq nq cq] 24)) := (Below.refl _ w5).alloc (Nat.le_refl _) _
      have hby : Below (w4.alloc (.cells #[.int .i64 op, .slice Ap np cp] 24)).heap.size (w4.alloc (.cells #[.int .i64 op, .slice Ap np cp] 24)) (w5.alloc (.cells #[.int .i64 oq, .slice Aq nq cq] 24)) := hb5.trans (hbx.mono hb5.size)
      have Tx5 := Lib.hid (Tx4.out.up hby)
      clear Tx4
      have Ty5 := Lib.hid (Ty4.out.up hby)
      clear Ty4
      have Tp5 := Lib.hid (Tp4.out.up hby)
      clear Tp4
      have Tq5 := Lib.hid (hTq.old.up hbx)
      clear hcall hXX hbx hby hb5 hTq HX4 p0 p1 p2 p3 p4 p5 p6 p7 p8 p9 p10 p11
      unfold tv
      have f := HX5.out.at0
      simp only [List.mem_cons, List.not_mem_nil, or_false, forall_eq_or_imp, forall_eq] at f
      obtain ⟨p0, p1, p2, p3, p4, p5, p6, p7, p8, p9, p10, p11, p12, p13⟩ := f
      have hpq : (tp, zp) = (tq, zq) := by rw [← EP.out, ← EQ.out]; exact three_math EX.out EY.out
      injection hpq with e1 e2
      subst e1
      subst e2
      have hcall := equal_any tp tp _ _ _ _ (w5.alloc (.cells #[.int .i64 oq, .slice Aq nq cq] 24)) Tp5.out Tq5.out
      rw [eqT_refl] at hcall
      unfold tv at hcall
      go_wp2_with fail
      refine hcall.mono ?_
      rintro e w6 ⟨rfl, hb6⟩
      have HX6 := Lib.hid (HX5.out.next hb6)
      have Tx6 := Lib.hid (Tx5.out.up hb6)
      clear Tx5
      have Ty6 := Lib.hid (Ty5.out.up hb6)
      clear Ty5
      have Tp6 := Lib.hid (Tp5.out.up hb6)
      clear Tp5
      have Tq6 := Lib.hid (Tq5.out.up hb6)
      clear Tq5
      clear hcall hb6 HX5 p0 p1 p2 p3 p4 p5 p6 p7 p8 p9 p10 p11 p12 p13
      have f := HX6.out.at0
      simp only [List.mem_cons, List.not_mem_nil, or_false, forall_eq_or_imp, forall_eq] at f
      obtain ⟨p0, p1, p2, p3, p4, p5, p6, p7, p8, p9, p10, p11, p12, p13⟩ := f
      go_wp2
      go_ret
      exact ⟨rfl, HX6.out.bel⟩
    · have hzb : (zy == 0) = false := beq_eq_false_iff_ne.2 hzy
      clear hzy
      go_wp2
      go_ret
      exact ⟨rfl, HX3.out.bel⟩
  · have hzb : (zx == 0) = false := beq_eq_false_iff_ne.2 hzx
    clear hzx
    go_wp2
    go_ret
    exact ⟨rfl, HX3.out.bel⟩
end Go.Proofs.YtflghlmikpfnpaaDoor.E
