/-
  StampPeeks: the walk of the law.
-/
import Derived.Test.YtoaglkjpjolacaaDoorGS4
namespace Go.Proofs.YtoaglkjpjolacaaDoor.S
open Go.RowKit
theorem sarg_fit' {w : World} {S : Option I.Tr} {T : Option E.Tr} {v : Value} (h : SArg w S T v) : ∀ x, T = some x → E.okT x = true := by
  rintro x rfl
  obtain ⟨_, _, _, _, _, _, _, _, _, _, h2⟩ := h
  exact h2.inT.2
theorem peek_zero {S : Option I.Tr} {T : Option E.Tr} {p : I.Tr} {q : E.Tr} (h : peekR S T = ((p, q), 0)) : ∃ i x, S = some i ∧ T = some x ∧ .leaf false = p ∧ x.norm = q := by
  cases S with
  | none => simp [peekR] at h
  | some i => cases T with
    | none => simp [peekR] at h
    | some x =>
      simp only [peekR, Prod.mk.injEq] at h
      exact ⟨i, x, rfl, rfl, h.1.1, h.1.2⟩
theorem peek_code {S : Option I.Tr} {T : Option E.Tr} {p : I.Tr} {q : E.Tr} {k : Int} (h : peekR S T = ((p, q), k)) (hk : k ≠ 0) : k = 2 := by
  cases S with
  | none => simp only [peekR, zeroS, Prod.mk.injEq] at h; exact h.2.symm
  | some i => cases T with
    | none => simp only [peekR, zeroS, Prod.mk.injEq] at h; exact h.2.symm
    | some x => simp only [peekR, Prod.mk.injEq] at h; exact absurd h.2.symm hk
theorem join_self (x : E.Tr) : E.Tr.join x.norm x.norm 0 0 = x.norm := (E.nf_join ..).unique (E.nf_norm _) fun f => by rw [E.den_join]; omega
theorem join_norm (x : E.Tr) : E.Tr.join x x.norm 0 0 = x.norm := (E.nf_join ..).unique (E.nf_norm _) fun f => by rw [E.den_join, E.den_norm]; omega
theorem both_zero (i : I.Tr) : I.bothT i (.leaf false) = false := (I.both_false _ _).2 fun _ _ => rfl
theorem sum_zero (i : I.Tr) : (I.sumT i (.leaf false)).norm = i.norm := (I.norm_iff_den _ _).2 fun f => by rw [I.den_sum]; simp [I.den]
theorem join_peek {i : I.Tr} {x : E.Tr} (hi : I.fit i = some i) (hx : E.okT x = true) : joinS (some i) (some x) (I.fit (.leaf false)) (E.fit x.norm) = ((i.norm, x.norm), 0) := by
  have h0 : I.fit (.leaf false) = some (.leaf false) := I.fit_of (by decide) (by decide)
  have hn := E.okT_norm hx
  rw [h0, E.fit_of hn]
  have h1 : I.sumR (some i) (some (.leaf false)) = (i.norm, 0) := by
    simp only [I.sumR, both_zero, sum_zero, I.fit_norm hi, Bool.false_eq_true, if_false, Option.isSome_some, if_true]
  have h2 : E.joinR (some x) (some x.norm) = (x.norm, 0) := by
    simp only [E.joinR, join_norm, hn, if_true]
  simp [joinS, h1, h2]
theorem same_norms {i : I.Tr} {x : E.Tr} (hi : I.fit i = some i) (hx : E.okT x = true) : I.sameO (I.fit i.norm) (some i) = true ∧ E.sameO (E.fit x.norm) (some x) = true := by
  constructor
  · rw [I.fit_norm hi]
    show I.sameB i.norm i = true
    rw [I.sameB_norm, I.norm_norm, I.eqT_refl]
  · rw [E.fit_of (E.okT_norm hx)]
    simp only [E.sameO, E.leqO, Bool.and_eq_true, E.leqT_iff]
    exact ⟨fun f => by rw [E.den_norm]; omega, fun f => by rw [E.den_norm]; omega⟩
theorem ifit_isSome {t : I.Tr} (h : (I.fit t).isSome = true) : I.fit t = some t := by
  unfold I.fit at *
  split at h
  · rename_i h1; rw [if_pos h1]
  · cases h
theorem fork_cases {i : I.Tr} {x : E.Tr} (hi : I.fit i = some i) (hx : E.okT x = true) : forkR (some i) (some x) = (zeroS, zeroS, 41) ∨
    (forkR (some i) (some x) = (((I.splitT i.norm).1, x.norm), ((I.splitT i.norm).2, x.norm), 0) ∧
      joinS (I.fit (I.splitT i.norm).1) (E.fit x.norm) (I.fit (I.splitT i.norm).2) (E.fit x.norm) = ((i.norm, x.norm), 0) ∧
      ((I.fit (I.splitT i.norm).1).isSome && (I.fit (I.splitT i.norm).2).isSome && E.leqO (E.fit x.norm) (E.fit x.norm)) = true ∧ ((I.fit (I.splitT i.norm).2).isSome && (I.fit (I.splitT i.norm).1).isSome && E.leqO (E.fit x.norm) (E.fit x.norm)) = true) := by
  have hn := E.okT_norm hx
  by_cases h : (I.fit (I.splitT i.norm).1).isSome = true ∧ (I.fit (I.splitT i.norm).2).isSome = true
  · right
    have hr : I.splitR (some i) = (I.splitT i.norm, 0) := if_pos h
    have e1 := ifit_isSome h.1
    have e2 := ifit_isSome h.2
    have hl : E.leqO (some x.norm) (some x.norm) = true := (E.leqT_iff _ _ _ _).2 fun f => Int.le_refl _
    refine ⟨by simp [forkR, hr], ?_, by rw [e1, e2, E.fit_of hn, hl]; rfl, by rw [e1, e2, E.fit_of hn, hl]; rfl⟩
    rw [e1, e2, E.fit_of hn]
    have hs : (I.sumT (I.splitT i.norm).1 (I.splitT i.norm).2).norm = i.norm := by rw [I.split_sum, I.norm_norm]
    have h1 : I.sumR (some (I.splitT i.norm).1) (some (I.splitT i.norm).2) = (i.norm, 0) := by
      simp only [I.sumR, I.split_apart, hs, I.fit_norm hi, Bool.false_eq_true, if_false, Option.isSome_some, if_true]
    have h2 : E.joinR (some x.norm) (some x.norm) = (x.norm, 0) := by
      simp only [E.joinR, join_self, hn, if_true]
    simp [joinS, h1, h2]
  · left
    have hr : I.splitR (some i) = ((.leaf false, .leaf false), 41) := if_neg h
    simp [forkR, hr]

set_option maxRecDepth 100000 in
set_option maxHeartbeats 12800000 in
theorem peeks_walk (Ss : Option I.Tr) (Ts : Option E.Tr) (s : Value) (w : World) (htab : E.Tab w) (hs : SArg w Ss Ts s) : Calls Tryd.prog 6 #[s] w fun e w' => e = .returned (.bool true) ∧ Below w.heap.size w w' := by
  have Hs := Lib.hid hs
  obtain ⟨os, As, ns, cs, zs, Bs, ms, ds, rfl, _, _⟩ := hs
  have HTB := Lib.hid htab
  have HX0 := Lib.hid ((SX.begin w).four os (.slice As ns cs) zs (.slice Bs ms ds) 29)
  simp only [List.nil_append] at HX0
  clear htab
  unfold sv
  go_enter Tryd.func6, Tryd.ntmps6
  go_wp2_with fail
  refine (shown_any _ (HTB.out.up HX0.out.bel)).mono ?_
  rintro e w1 ⟨rfl, hb1⟩
  have HX1 := Lib.hid (HX0.out.next hb1)
  clear hb1 HX0
  have f := HX1.out.at0
  simp only [List.mem_cons, List.not_mem_nil, or_false, forall_eq_or_imp, forall_eq] at f
  obtain ⟨p0, p1, p2, p3⟩ := f
  have hcall := peek_any (Hs.out.up HX1.out.bel)
  obtain ⟨rEP, EP0⟩ : ∃ r, peekR Ss Ts = r := ⟨_, rfl⟩
  rw [EP0] at hcall
  obtain ⟨⟨ip, xp⟩, kEP⟩ := rEP
  have EP := Lib.hid EP0
  clear EP0
  unfold sv at hcall
  go_wp2_with fail
  refine hcall.mono ?_
  rintro e w2 ⟨vp, rfl, hp, hb2⟩
  simp only at hp ⊢
  have gp := hp
  obtain ⟨op, Ap, np, cp, Bp, mp, dp, rfl, _, _⟩ := gp
  obtain ⟨zp, hzp⟩ : ∃ z, xp.N = z := ⟨_, rfl⟩
  rw [hzp] at hp ⊢
  clear hzp
  have HX2 := Lib.hid ((HX1.out.next hb2).four op (.slice Ap np cp) zp (.slice Bp mp dp) 29)
  simp only [List.nil_append, List.cons_append] at HX2
  have hbx : Below w2.heap.size w2 (w2.alloc (.cells #[.bool op, .slice Ap np cp, .int .i64 zp, .slice Bp mp dp] 29)) := (Below.refl _ w2).alloc (Nat.le_refl _) _
  have hby := hb2.trans (hbx.mono hb2.size)
  have Up2 := Lib.hid (hp.up hbx)
  clear hcall hbx hby hb2 HX1 hp p0 p1 p2 p3
  unfold sv
  go_upto_region 3 with fail
  generalize (w2.alloc (.cells #[.bool op, .slice Ap np cp, .int .i64 zp, .slice Bp mp dp] 29)) = v2w at *
  have f := HX2.out.at0
  simp only [List.mem_cons, List.not_mem_nil, or_false, forall_eq_or_imp, forall_eq] at f
  obtain ⟨p0, p1, p2, p3, p4, p5, p6, p7⟩ := f
  by_cases hz : kEP = 0
  · subst hz
    obtain ⟨i, x, rfl, rfl, rfl, rfl⟩ := peek_zero EP.out
    have hfi := sarg_fit Hs.out i rfl
    have hfx := sarg_fit' Hs.out x rfl
    have HJ := Lib.hid (join_peek hfi hfx)
    have HSA := Lib.hid (same_norms hfi hfx)
    have HFI := Lib.hid hfi
    have HFX := Lib.hid hfx
    clear hfi hfx
    have hcall := join_any (Hs.out.up HX2.out.bel) Up2.out.arg
    obtain ⟨rEJ, EJ0⟩ : ∃ r, joinS (some i) (some x) (I.fit (.leaf false)) (E.fit x.norm) = r := ⟨_, rfl⟩
    rw [EJ0] at hcall
    obtain ⟨⟨ij, xj⟩, kEJ⟩ := rEJ
    have EJ := Lib.hid EJ0
    clear EJ0
    unfold sv at hcall
    go_wp2_with fail
    refine hcall.mono ?_
    rintro e w3 ⟨vj, rfl, hj, hb3⟩
    simp only at hj ⊢
    have gj := hj
    obtain ⟨oj, Aj, nj, cj, Bj, mj, dj, rfl, _, _⟩ := gj
    obtain ⟨zj, hzj⟩ : ∃ z, xj.N = z := ⟨_, rfl⟩
    rw [hzj] at hj ⊢
    clear hzj
    have HX3 := Lib.hid ((HX2.out.next hb3).four oj (.slice Aj nj cj) zj (.slice Bj mj dj) 29)
    simp only [List.nil_append, List.cons_append] at HX3
    have hbx : Below w3.heap.size w3 (w3.alloc (.cells #[.bool oj, .slice Aj nj cj, .int .i64 zj, .slice Bj mj dj] 29)) := (Below.refl _ w3).alloc (Nat.le_refl _) _
    have hby := hb3.trans (hbx.mono hb3.size)
    have Up3 := Lib.hid (Up2.out.up hby)
    clear Up2
    have Uj3 := Lib.hid (hj.up hbx)
    clear hcall hbx hby hb3 HX2 hj p0 p1 p2 p3 p4 p5 p6 p7
    unfold sv
    go_upto_region 6 with fail
    generalize (w3.alloc (.cells #[.bool oj, .slice Aj nj cj, .int .i64 zj, .slice Bj mj dj] 29)) = v3w at *
    have f := HX3.out.at0
    simp only [List.mem_cons, List.not_mem_nil, or_false, forall_eq_or_imp, forall_eq] at f
    obtain ⟨p0, p1, p2, p3, p4, p5, p6, p7, p8, p9, p10, p11⟩ := f
    have hcall := fork_any (Hs.out.up HX3.out.bel)
    obtain ⟨rEF, EF0⟩ : ∃ r, forkR (some i) (some x) = r := ⟨_, rfl⟩
    rw [EF0] at hcall
    obtain ⟨⟨ia, xa⟩, ⟨ib, xb⟩, kEF⟩ := rEF
    have EF := Lib.hid EF0
    clear EF0
    unfold sv at hcall
    go_wp2_with fail
    refine hcall.mono ?_
    rintro e w4 ⟨va, vb, rfl, ha, hb, hb4⟩
    simp only at ha hb ⊢
    have ga := ha
    obtain ⟨oa, Aa, na, ca, Ba, ma, da, rfl, _, _⟩ := ga
    obtain ⟨za, hza⟩ : ∃ z, xa.N = z := ⟨_, rfl⟩
    rw [hza] at ha ⊢
    clear hza
    have gb := hb
    obtain ⟨ob, Ab, nb, cb, Bb, mb, db, rfl, _, _⟩ := gb
    obtain ⟨zb, hzb⟩ : ∃ z, xb.N = z := ⟨_, rfl⟩
    rw [hzb] at hb ⊢
    clear hzb
    have HX4 := Lib.hid (((HX3.out.next hb4).four oa (.slice Aa na ca) za (.slice Ba ma da) 29).four ob (.slice Ab nb cb) zb (.slice Bb mb db) 29)
    simp only [List.nil_append, List.cons_append, World.size_alloc] at HX4
    have hbx : Below w4.heap.size w4 ((w4.alloc (.cells #[.bool oa, .slice Aa na ca, .int .i64 za, .slice Ba ma da] 29)).alloc (.cells #[.bool ob, .slice Ab nb cb, .int .i64 zb, .slice Bb mb db] 29)) := (((Below.refl _ w4).alloc (Nat.le_refl _) _).alloc (by simp) _)
    have hby := hb4.trans (hbx.mono hb4.size)
    have Up4 := Lib.hid (Up3.out.up hby)
    clear Up3
    have Uj4 := Lib.hid (Uj3.out.up hby)
    clear Uj3
    have Ua4 := Lib.hid (ha.up hbx)
    have Ub4 := Lib.hid (hb.up hbx)
    clear hcall hbx hby hb4 HX3 ha hb p0 p1 p2 p3 p4 p5 p6 p7 p8 p9 p10 p11
    unfold sv
    go_upto_region 7 with fail
    generalize ((w4.alloc (.cells #[.bool oa, .slice Aa na ca, .int .i64 za, .slice Ba ma da] 29)).alloc (.cells #[.bool ob, .slice Ab nb cb, .int .i64 zb, .slice Bb mb db] 29)) = v4w at *
    have f := HX4.out.at0
    simp only [List.mem_cons, List.not_mem_nil, or_false, forall_eq_or_imp, forall_eq] at f
    obtain ⟨p0, p1, p2, p3, p4, p5, p6, p7, p8, p9, p10, p11, p12, p13, p14, p15, p16, p17, p18, p19⟩ := f
    have hpq := HJ.out.symm.trans EJ.out
    simp only [Prod.mk.injEq] at hpq
    obtain ⟨⟨rfl, rfl⟩, rfl⟩ := hpq
    clear HJ EJ
    obtain ⟨oo, AA, nn, cc, BB, mm, dd, hsv, hxi, hxe⟩ := Uj4.out
    obtain ⟨oo', AA', nn', cc', zz', BB', mm', dd', hsv', hsi, hse⟩ := (Hs.out.up HX4.out.bel)
    simp only [sv, Value.agg.injEq, Array.mk.injEq, List.cons.injEq, Value.bool.injEq, Value.slice.injEq, Value.int.injEq, and_true, true_and] at hsv hsv'
    obtain ⟨rfl, ⟨rfl, rfl, rfl⟩, rfl, rfl, rfl, rfl⟩ := hsv
    obtain ⟨rfl, ⟨rfl, rfl, rfl⟩, rfl, rfl, rfl, rfl⟩ := hsv'
    have hcall := I.same_arg (I.arg_of hxi) hsi
    rw [HSA.out.1] at hcall
    clear hxi hxe hsi hse
    unfold I.tv at hcall
    go_wp2_with fail
    refine hcall.mono ?_
    rintro e w5 ⟨rfl, hb5⟩
    have HX5 := Lib.hid (HX4.out.next hb5)
    have Up5 := Lib.hid (Up4.out.up hb5)
    clear Up4
    have Uj5 := Lib.hid (Uj4.out.up hb5)
    clear Uj4
    have Ua5 := Lib.hid (Ua4.out.up hb5)
    clear Ua4
    have Ub5 := Lib.hid (Ub4.out.up hb5)
    clear Ub4
    clear hcall hb5 HX4 p0 p1 p2 p3 p4 p5 p6 p7 p8 p9 p10 p11 p12 p13 p14 p15 p16 p17 p18 p19
    have f := HX5.out.at0
    simp only [List.mem_cons, List.not_mem_nil, or_false, forall_eq_or_imp, forall_eq] at f
    obtain ⟨p0, p1, p2, p3, p4, p5, p6, p7, p8, p9, p10, p11, p12, p13, p14, p15, p16, p17, p18, p19⟩ := f
    obtain ⟨oo, AA, nn, cc, BB, mm, dd, hsv, hxi, hxe⟩ := Uj5.out
    obtain ⟨oo', AA', nn', cc', zz', BB', mm', dd', hsv', hsi, hse⟩ := (Hs.out.up HX5.out.bel)
    simp only [sv, Value.agg.injEq, Array.mk.injEq, List.cons.injEq, Value.bool.injEq, Value.slice.injEq, Value.int.injEq, and_true, true_and] at hsv hsv'
    obtain ⟨rfl, ⟨rfl, rfl, rfl⟩, rfl, rfl, rfl, rfl⟩ := hsv
    obtain ⟨rfl, ⟨rfl, rfl, rfl⟩, rfl, rfl, rfl, rfl⟩ := hsv'
    have hcall := E.same_arg (E.arg_of hxe) hse
    rw [HSA.out.2] at hcall
    clear hxi hxe hsi hse
    unfold E.tv at hcall
    go_wp2_with fail
    refine hcall.mono ?_
    rintro e w6 ⟨rfl, hb6⟩
    have HX6 := Lib.hid (HX5.out.next hb6)
    have Up6 := Lib.hid (Up5.out.up hb6)
    clear Up5
    have Uj6 := Lib.hid (Uj5.out.up hb6)
    clear Uj5
    have Ua6 := Lib.hid (Ua5.out.up hb6)
    clear Ua5
    have Ub6 := Lib.hid (Ub5.out.up hb6)
    clear Ub5
    clear hcall hb6 HX5 p0 p1 p2 p3 p4 p5 p6 p7 p8 p9 p10 p11 p12 p13 p14 p15 p16 p17 p18 p19
    have f := HX6.out.at0
    simp only [List.mem_cons, List.not_mem_nil, or_false, forall_eq_or_imp, forall_eq] at f
    obtain ⟨p0, p1, p2, p3, p4, p5, p6, p7, p8, p9, p10, p11, p12, p13, p14, p15, p16, p17, p18, p19⟩ := f
    rcases fork_cases HFI.out HFX.out with hfk | hfk
    · have hpq := hfk.symm.trans EF.out
      simp only [zeroS, Prod.mk.injEq] at hpq
      obtain ⟨_, _, rfl⟩ := hpq
      clear hfk
      have HEND := Lib.hid HX6.out.bel
      clear HX6
      go_wp2
      go_ret
      exact ⟨rfl, HEND.out⟩
    · obtain ⟨hfk, hjn, hlq⟩ := hfk
      have hpq := hfk.symm.trans EF.out
      simp only [Prod.mk.injEq] at hpq
      obtain ⟨⟨rfl, rfl⟩, ⟨rfl, rfl⟩, rfl⟩ := hpq
      have HJN := Lib.hid hjn
      have HLQ := Lib.hid hlq
      clear hfk hjn hlq EF
      have hcall := join_any Ua6.out.arg Ub6.out.arg
      obtain ⟨rEY, EY0⟩ : ∃ r, joinS (I.fit (I.splitT i.norm).1) (E.fit x.norm) (I.fit (I.splitT i.norm).2) (E.fit x.norm) = r := ⟨_, rfl⟩
      rw [EY0] at hcall
      obtain ⟨⟨iy, xy⟩, kEY⟩ := rEY
      have EY := Lib.hid EY0
      clear EY0
      unfold sv at hcall
      go_wp2_with fail
      refine hcall.mono ?_
      rintro e w7 ⟨vy, rfl, hy, hb7⟩
      simp only at hy ⊢
      have gy := hy
      obtain ⟨oy, Ay, ny, cy, By, my, dy, rfl, _, _⟩ := gy
      obtain ⟨zy, hzy⟩ : ∃ z, xy.N = z := ⟨_, rfl⟩
      rw [hzy] at hy ⊢
      clear hzy
      have HX7 := Lib.hid ((HX6.out.next hb7).four oy (.slice Ay ny cy) zy (.slice By my dy) 29)
      simp only [List.nil_append, List.cons_append] at HX7
      have hbx : Below w7.heap.size w7 (w7.alloc (.cells #[.bool oy, .slice Ay ny cy, .int .i64 zy, .slice By my dy] 29)) := (Below.refl _ w7).alloc (Nat.le_refl _) _
      have hby := hb7.trans (hbx.mono hb7.size)
      have Up7 := Lib.hid (Up6.out.up hby)
      clear Up6
      have Uj7 := Lib.hid (Uj6.out.up hby)
      clear Uj6
      have Ua7 := Lib.hid (Ua6.out.up hby)
      clear Ua6
      have Ub7 := Lib.hid (Ub6.out.up hby)
      clear Ub6
      have Uy7 := Lib.hid (hy.up hbx)
      clear hcall hbx hby hb7 HX6 hy p0 p1 p2 p3 p4 p5 p6 p7 p8 p9 p10 p11 p12 p13 p14 p15 p16 p17 p18 p19
      unfold sv
      go_upto_region 12 with fail
      generalize (w7.alloc (.cells #[.bool oy, .slice Ay ny cy, .int .i64 zy, .slice By my dy] 29)) = v7w at *
      have f := HX7.out.at0
      simp only [List.mem_cons, List.not_mem_nil, or_false, forall_eq_or_imp, forall_eq] at f
      obtain ⟨p0, p1, p2, p3, p4, p5, p6, p7, p8, p9, p10, p11, p12, p13, p14, p15, p16, p17, p18, p19, p20, p21, p22, p23⟩ := f
      have hpq := HJN.out.symm.trans EY.out
      simp only [Prod.mk.injEq] at hpq
      obtain ⟨⟨rfl, rfl⟩, rfl⟩ := hpq
      clear HJN EY
      obtain ⟨oo, AA, nn, cc, BB, mm, dd, hsv, hxi, hxe⟩ := Uy7.out
      obtain ⟨oo', AA', nn', cc', zz', BB', mm', dd', hsv', hsi, hse⟩ := (Hs.out.up HX7.out.bel)
      simp only [sv, Value.agg.injEq, Array.mk.injEq, List.cons.injEq, Value.bool.injEq, Value.slice.injEq, Value.int.injEq, and_true, true_and] at hsv hsv'
      obtain ⟨rfl, ⟨rfl, rfl, rfl⟩, rfl, rfl, rfl, rfl⟩ := hsv
      obtain ⟨rfl, ⟨rfl, rfl, rfl⟩, rfl, rfl, rfl, rfl⟩ := hsv'
      have hcall := I.same_arg (I.arg_of hxi) hsi
      rw [HSA.out.1] at hcall
      clear hxi hxe hsi hse
      unfold I.tv at hcall
      go_wp2_with fail
      refine hcall.mono ?_
      rintro e w8 ⟨rfl, hb8⟩
      have HX8 := Lib.hid (HX7.out.next hb8)
      have Up8 := Lib.hid (Up7.out.up hb8)
      clear Up7
      have Uj8 := Lib.hid (Uj7.out.up hb8)
      clear Uj7
      have Ua8 := Lib.hid (Ua7.out.up hb8)
      clear Ua7
      have Ub8 := Lib.hid (Ub7.out.up hb8)
      clear Ub7
      have Uy8 := Lib.hid (Uy7.out.up hb8)
      clear Uy7
      clear hcall hb8 HX7 p0 p1 p2 p3 p4 p5 p6 p7 p8 p9 p10 p11 p12 p13 p14 p15 p16 p17 p18 p19 p20 p21 p22 p23
      have f := HX8.out.at0
      simp only [List.mem_cons, List.not_mem_nil, or_false, forall_eq_or_imp, forall_eq] at f
      obtain ⟨p0, p1, p2, p3, p4, p5, p6, p7, p8, p9, p10, p11, p12, p13, p14, p15, p16, p17, p18, p19, p20, p21, p22, p23⟩ := f
      obtain ⟨oo, AA, nn, cc, BB, mm, dd, hsv, hxi, hxe⟩ := Uy8.out
      obtain ⟨oo', AA', nn', cc', zz', BB', mm', dd', hsv', hsi, hse⟩ := (Hs.out.up HX8.out.bel)
      simp only [sv, Value.agg.injEq, Array.mk.injEq, List.cons.injEq, Value.bool.injEq, Value.slice.injEq, Value.int.injEq, and_true, true_and] at hsv hsv'
      obtain ⟨rfl, ⟨rfl, rfl, rfl⟩, rfl, rfl, rfl, rfl⟩ := hsv
      obtain ⟨rfl, ⟨rfl, rfl, rfl⟩, rfl, rfl, rfl, rfl⟩ := hsv'
      have hcall := E.same_arg (E.arg_of hxe) hse
      rw [HSA.out.2] at hcall
      clear hxi hxe hsi hse
      unfold E.tv at hcall
      go_wp2_with fail
      refine hcall.mono ?_
      rintro e w9 ⟨rfl, hb9⟩
      have HX9 := Lib.hid (HX8.out.next hb9)
      have Up9 := Lib.hid (Up8.out.up hb9)
      clear Up8
      have Uj9 := Lib.hid (Uj8.out.up hb9)
      clear Uj8
      have Ua9 := Lib.hid (Ua8.out.up hb9)
      clear Ua8
      have Ub9 := Lib.hid (Ub8.out.up hb9)
      clear Ub8
      have Uy9 := Lib.hid (Uy8.out.up hb9)
      clear Uy8
      clear hcall hb9 HX8 p0 p1 p2 p3 p4 p5 p6 p7 p8 p9 p10 p11 p12 p13 p14 p15 p16 p17 p18 p19 p20 p21 p22 p23
      have f := HX9.out.at0
      simp only [List.mem_cons, List.not_mem_nil, or_false, forall_eq_or_imp, forall_eq] at f
      obtain ⟨p0, p1, p2, p3, p4, p5, p6, p7, p8, p9, p10, p11, p12, p13, p14, p15, p16, p17, p18, p19, p20, p21, p22, p23⟩ := f
      have hcall := leq_any Ua9.out.arg Ub9.out.arg
      rw [HLQ.out.1] at hcall
      unfold sv at hcall
      go_wp2_with fail
      refine hcall.mono ?_
      rintro e w10 ⟨rfl, hb10⟩
      have HX10 := Lib.hid (HX9.out.next hb10)
      have Up10 := Lib.hid (Up9.out.up hb10)
      clear Up9
      have Uj10 := Lib.hid (Uj9.out.up hb10)
      clear Uj9
      have Ua10 := Lib.hid (Ua9.out.up hb10)
      clear Ua9
      have Ub10 := Lib.hid (Ub9.out.up hb10)
      clear Ub9
      have Uy10 := Lib.hid (Uy9.out.up hb10)
      clear Uy9
      clear hcall hb10 HX9 p0 p1 p2 p3 p4 p5 p6 p7 p8 p9 p10 p11 p12 p13 p14 p15 p16 p17 p18 p19 p20 p21 p22 p23
      have f := HX10.out.at0
      simp only [List.mem_cons, List.not_mem_nil, or_false, forall_eq_or_imp, forall_eq] at f
      obtain ⟨p0, p1, p2, p3, p4, p5, p6, p7, p8, p9, p10, p11, p12, p13, p14, p15, p16, p17, p18, p19, p20, p21, p22, p23⟩ := f
      have hcall := leq_any Ub10.out.arg Ua10.out.arg
      rw [HLQ.out.2] at hcall
      unfold sv at hcall
      go_wp2_with fail
      refine hcall.mono ?_
      rintro e w11 ⟨rfl, hb11⟩
      have HX11 := Lib.hid (HX10.out.next hb11)
      have Up11 := Lib.hid (Up10.out.up hb11)
      clear Up10
      have Uj11 := Lib.hid (Uj10.out.up hb11)
      clear Uj10
      have Ua11 := Lib.hid (Ua10.out.up hb11)
      clear Ua10
      have Ub11 := Lib.hid (Ub10.out.up hb11)
      clear Ub10
      have Uy11 := Lib.hid (Uy10.out.up hb11)
      clear Uy10
      clear hcall hb11 HX10 p0 p1 p2 p3 p4 p5 p6 p7 p8 p9 p10 p11 p12 p13 p14 p15 p16 p17 p18 p19 p20 p21 p22 p23
      have f := HX11.out.at0
      simp only [List.mem_cons, List.not_mem_nil, or_false, forall_eq_or_imp, forall_eq] at f
      obtain ⟨p0, p1, p2, p3, p4, p5, p6, p7, p8, p9, p10, p11, p12, p13, p14, p15, p16, p17, p18, p19, p20, p21, p22, p23⟩ := f
      have HEND := Lib.hid HX11.out.bel
      clear HX11
      go_wp2
      go_ret
      exact ⟨rfl, HEND.out⟩
  · have hk2 := peek_code EP.out hz
    subst hk2
    have HEND := Lib.hid HX2.out.bel
    clear HX2
    go_wp2
    go_ret
    exact ⟨rfl, HEND.out⟩
end Go.Proofs.YtoaglkjpjolacaaDoor.S
