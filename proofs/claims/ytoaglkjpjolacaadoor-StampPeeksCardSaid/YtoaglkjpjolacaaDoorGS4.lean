/-
  StampRises: the walk of the law.
-/
import Derived.Test.YtoaglkjpjolacaaDoorGS3
import Derived.Test.YtoaglkjpjolacaaDoorGG1
import Derived.Test.YtoaglkjpjolacaaDoorGS1
import Derived.Test.YtoaglkjpjolacaaDoorGI4
import Derived.Test.YtoaglkjpjolacaaDoorGE3
namespace Go.Proofs.YtoaglkjpjolacaaDoor.S
open Go.RowKit
theorem sarg_fit {w : World} {S : Option I.Tr} {T : Option E.Tr} {v : Value} (h : SArg w S T v) : ∀ j, S = some j → I.fit j = some j := by
  rintro j rfl
  obtain ⟨_, _, _, _, _, _, _, _, _, h1, _⟩ := h
  exact h1.fit
theorem event_zero {S : Option I.Tr} {T : Option E.Tr} {i : I.Tr} {x : E.Tr} (h : eventR S T = ((i, x), 0)) : ∃ j y, S = some j ∧ T = some y ∧ zero j.norm = false ∧ E.okT (afterT j.norm y.norm) = true ∧ i = j.norm ∧ x = (afterT j.norm y.norm).norm := by
  unfold eventR at h
  split at h
  · rename_i j y
    split at h
    · injection h with h1 h2; exact absurd h2 (by decide)
    · rename_i hz
      split at h
      · rename_i ho
        injection h with h1 h2
        injection h1 with h1 h3
        exact ⟨j, y, rfl, rfl, by simpa using hz, ho, h1.symm, h3.symm⟩
      · injection h with h1 h2; exact absurd h2 (by decide)
  · injection h with h1 h2; exact absurd h2 (by decide)
theorem rises_codes {S : Option I.Tr} {T : Option E.Tr} {i : I.Tr} {x : E.Tr} {k : Int} (h : eventR S T = ((i, x), k)) (hk : k ≠ 0) : k = 2 ∨ k = 60 ∨ k = 50 := by
  unfold eventR at h
  split at h
  · split at h
    · injection h with h1 h2; exact .inr (.inl h2.symm)
    · split at h
      · injection h with h1 h2; exact absurd h2.symm hk
      · injection h with h1 h2; exact .inr (.inr h2.symm)
  · injection h with h1 h2; exact .inl h2.symm
/-- What an event does to the counts: nowhere less, the same outside the identity, somewhere more. -/
theorem after_does {i : I.Tr} {x : E.Tr} (hi : i.norm = i) (hz : zero i = false) (hx : E.Nf x) : (∀ f, E.den x f ≤ E.den (afterT i x) f) ∧ (∀ f, I.den i f = false → E.den (afterT i x) f = E.den x f) ∧ (∃ f, I.den i f = true ∧ E.den x f < E.den (afterT i x) f) := by
  have hup := (fill_high i x).2
  unfold afterT
  split
  · rename_i h
    simp only [Bool.and_eq_true, E.leqT_iff] at h
    have heq : ∀ f, E.den (fillT i x) f = E.den x f := fun f => by have := h.1 f; have := h.2 f; omega
    obtain ⟨g, _⟩ := grow_does _ i x (Nat.le_refl _) (nz_norm i hi) hz (flat_of_fill i x hx heq)
    exact ⟨g.up, g.off, g.gain⟩
  · rename_i h
    refine ⟨fun f => (hup f).1, fun f => (hup f).2, ?_⟩
    have h2 : E.leqT x (fillT i x) 0 0 = true := (E.leqT_iff _ _ _ _).2 fun f => by have := (hup f).1; omega
    rw [h2, Bool.and_true] at h
    have h3 : ¬ ∀ f, (0 : Int) + E.den (fillT i x) f ≤ 0 + E.den x f := fun hf => h ((E.leqT_iff _ _ _ _).2 hf)
    obtain ⟨f, hf⟩ := Classical.not_forall.1 h3
    refine ⟨f, ?_, by omega⟩
    cases hd : I.den i f with
    | true => rfl
    | false => have := (hup f).2 hd; omega
theorem rises_math {S : Option I.Tr} {T : Option E.Tr} {i : I.Tr} {x : E.Tr} (hS : ∀ j, S = some j → I.fit j = some j) (h : eventR S T = ((i, x), 0)) :
    (S.isSome && (I.fit i).isSome && E.leqO T (E.fit x)) = true ∧ ((I.fit i).isSome && S.isSome && E.leqO (E.fit x) T) = false ∧ I.sameO (I.fit i) S = true := by
  obtain ⟨j, y, rfl, rfl, hz, ho, rfl, rfl⟩ := event_zero h
  have hf := I.fit_norm (hS j rfl)
  have hx : E.fit (afterT j.norm y.norm).norm = some (afterT j.norm y.norm).norm := E.fit_of (E.okT_norm ho)
  obtain ⟨h1, _, f, _, h3⟩ := after_does (I.norm_norm j) hz (E.nf_norm y)
  have h1' : E.leqT y (afterT j.norm y.norm).norm 0 0 = true := (E.leqT_iff _ _ _ _).2 fun f => by have := h1 f; rw [E.den_norm] at this; rw [E.den_norm]; omega
  have h2' : E.leqT (afterT j.norm y.norm).norm y 0 0 = false := by
    cases hb : E.leqT (afterT j.norm y.norm).norm y 0 0 with
    | false => rfl
    | true =>
      have := (E.leqT_iff _ _ _ _).1 hb f
      rw [E.den_norm] at this h3; omega
  rw [hf, hx]
  refine ⟨by simp [E.leqO, h1'], by simp [E.leqO, h2'], ?_⟩
  show I.sameB j.norm j = true
  rw [I.sameB_norm, I.norm_norm, I.eqT_refl]

set_option maxRecDepth 100000 in
set_option maxHeartbeats 12800000 in
theorem rises_walk (Ss : Option I.Tr) (Ts : Option E.Tr) (s : Value) (w : World) (htab : E.Tab w) (hs : SArg w Ss Ts s) : Calls Tryd.prog 4 #[s] w fun e w' => e = .returned (.bool true) ∧ Below w.heap.size w w' := by
  have Hs := Lib.hid hs
  obtain ⟨os, As, ns, cs, zs, Bs, ms, ds, rfl, _, _⟩ := hs
  have HTB := Lib.hid htab
  have HX0 := Lib.hid ((SX.begin w).four os (.slice As ns cs) zs (.slice Bs ms ds) 29)
  simp only [List.nil_append] at HX0
  clear htab
  unfold sv
  go_enter Tryd.func4, Tryd.ntmps4
  go_wp2_with fail
  refine (shown_any _ (HTB.out.up HX0.out.bel)).mono ?_
  rintro e w1 ⟨rfl, hb1⟩
  have HX1 := Lib.hid (HX0.out.next hb1)
  clear hb1 HX0
  have f := HX1.out.at0
  simp only [List.mem_cons, List.not_mem_nil, or_false, forall_eq_or_imp, forall_eq] at f
  obtain ⟨p0, p1, p2, p3⟩ := f
  have hcall := event_any (Hs.out.up HX1.out.bel)
  obtain ⟨rEX, EX0⟩ : ∃ r, eventR Ss Ts = r := ⟨_, rfl⟩
  rw [EX0] at hcall
  obtain ⟨⟨ix, xx⟩, kEX⟩ := rEX
  have EX := Lib.hid EX0
  clear EX0
  unfold sv at hcall
  go_wp2_with fail
  refine hcall.mono ?_
  rintro e w2 ⟨vx, rfl, hx, hb2⟩
  simp only at hx ⊢
  have gx := hx
  obtain ⟨ox, Ax, nx, cx, Bx, mx, dx, rfl, _, _⟩ := gx
  obtain ⟨zx, hzx⟩ : ∃ z, xx.N = z := ⟨_, rfl⟩
  rw [hzx] at hx ⊢
  clear hzx
  have HX2 := Lib.hid ((HX1.out.next hb2).four ox (.slice Ax nx cx) zx (.slice Bx mx dx) 29)
  simp only [List.nil_append, List.cons_append] at HX2
  have hbx : Below w2.heap.size w2 (w2.alloc (.cells #[.bool ox, .slice Ax nx cx, .int .i64 zx, .slice Bx mx dx] 29)) := (Below.refl _ w2).alloc (Nat.le_refl _) _
  have hby := hb2.trans (hbx.mono hb2.size)
  have Ux2 := Lib.hid (hx.up hbx)
  clear hcall hbx hby hb2 HX1 hx p0 p1 p2 p3
  unfold sv
  go_upto_region 3 with fail
  generalize (w2.alloc (.cells #[.bool ox, .slice Ax nx cx, .int .i64 zx, .slice Bx mx dx] 29)) = v2w at *
  have f := HX2.out.at0
  simp only [List.mem_cons, List.not_mem_nil, or_false, forall_eq_or_imp, forall_eq] at f
  obtain ⟨p0, p1, p2, p3, p4, p5, p6, p7⟩ := f
  by_cases hz : kEX = 0
  · subst hz
    have HM := Lib.hid (rises_math (sarg_fit Hs.out) EX.out)
    have hcall := leq_any (Hs.out.up HX2.out.bel) Ux2.out.arg
    rw [HM.out.1] at hcall
    unfold sv at hcall
    go_wp2_with fail
    refine hcall.mono ?_
    rintro e w3 ⟨rfl, hb3⟩
    have HX3 := Lib.hid (HX2.out.next hb3)
    have Ux3 := Lib.hid (Ux2.out.up hb3)
    clear Ux2
    clear hcall hb3 HX2 p0 p1 p2 p3 p4 p5 p6 p7
    have f := HX3.out.at0
    simp only [List.mem_cons, List.not_mem_nil, or_false, forall_eq_or_imp, forall_eq] at f
    obtain ⟨p0, p1, p2, p3, p4, p5, p6, p7⟩ := f
    have hcall := leq_any Ux3.out.arg (Hs.out.up HX3.out.bel)
    rw [HM.out.2.1] at hcall
    unfold sv at hcall
    go_wp2_with fail
    refine hcall.mono ?_
    rintro e w4 ⟨rfl, hb4⟩
    have HX4 := Lib.hid (HX3.out.next hb4)
    have Ux4 := Lib.hid (Ux3.out.up hb4)
    clear Ux3
    clear hcall hb4 HX3 p0 p1 p2 p3 p4 p5 p6 p7
    have f := HX4.out.at0
    simp only [List.mem_cons, List.not_mem_nil, or_false, forall_eq_or_imp, forall_eq] at f
    obtain ⟨p0, p1, p2, p3, p4, p5, p6, p7⟩ := f
    obtain ⟨oo, AA, nn, cc, BB, mm, dd, hsv, hxi, hxe⟩ := Ux4.out
    obtain ⟨oo', AA', nn', cc', zz', BB', mm', dd', hsv', hsi, hse⟩ := (Hs.out.up HX4.out.bel)
    simp only [sv, Value.agg.injEq, Array.mk.injEq, List.cons.injEq, Value.bool.injEq, Value.slice.injEq, Value.int.injEq, and_true, true_and] at hsv hsv'
    obtain ⟨rfl, ⟨rfl, rfl, rfl⟩, hzz, rfl, rfl, rfl⟩ := hsv
    obtain ⟨rfl, ⟨rfl, rfl, rfl⟩, rfl, rfl, rfl, rfl⟩ := hsv'
    have hcall := I.same_arg (I.arg_of hxi) hsi
    rw [HM.out.2.2] at hcall
    clear hxi hxe hsi hse hzz
    unfold I.tv at hcall
    go_wp2_with fail
    refine hcall.mono ?_
    rintro e w5 ⟨rfl, hb5⟩
    have HX5 := Lib.hid (HX4.out.next hb5)
    clear hcall hb5 HX4 p0 p1 p2 p3 p4 p5 p6 p7
    have HEND := Lib.hid HX5.out.bel
    clear HX5
    go_wp2
    go_ret
    exact ⟨rfl, HEND.out⟩
  · have hzb : (kEX != 0) = true := by simpa using hz
    have hzc : (kEX == 0) = false := beq_eq_false_iff_ne.2 hz
    have hcs := rises_codes EX.out hz
    rcases hcs with rfl | rfl | rfl
    · have HEND := Lib.hid HX2.out.bel
      clear HX2
      go_wp2
      go_ret
      exact ⟨rfl, HEND.out⟩
    · have HEND := Lib.hid HX2.out.bel
      clear HX2
      go_wp2
      go_ret
      exact ⟨rfl, HEND.out⟩
    · have HEND := Lib.hid HX2.out.bel
      clear HX2
      go_wp2
      go_ret
      exact ⟨rfl, HEND.out⟩
end Go.Proofs.YtoaglkjpjolacaaDoor.S
namespace Go.Proofs.YtoaglkjpjolacaaDoor.S
open Go.RowKit
def joinS (S : Option I.Tr) (T : Option E.Tr) (S' : Option I.Tr) (T' : Option E.Tr) : (I.Tr × E.Tr) × Int :=
  if (I.sumR S S').2 = 0 then (if (E.joinR T T').2 = 0 then (((I.sumR S S').1, (E.joinR T T').1), 0) else (zeroS, (E.joinR T T').2)) else (zeroS, (I.sumR S S').2)
set_option maxRecDepth 100000 in
set_option maxHeartbeats 6400000 in
theorem join_any {w : World} {S S' : Option I.Tr} {T T' : Option E.Tr} {u v : Value} (h : SArg w S T u) (k : SArg w S' T' v) : Calls Tryd.prog 19 #[u, v] w (AnsS (joinS S T S' T') w) := by
  obtain ⟨o, A, n, c, z, A', n', c', rfl, h1, h2⟩ := h
  obtain ⟨p, B, m, d, t, B', m', d', rfl, k1, k2⟩ := k
  have HX0 := Lib.hid ((((SX.begin w).four o (.slice A n c) z (.slice A' n' c') 29).four p (.slice B m d) t (.slice B' m' d') 29).four false (.slice none 0 0) 0 (.slice none 0 0) 29)
  simp only [List.nil_append, List.cons_append, World.size_alloc] at HX0
  have H2 := Lib.hid h2
  have K2 := Lib.hid k2
  have hc := I.sum_arg (h1.up HX0.out.bel) (k1.up HX0.out.bel)
  obtain ⟨r1, hr1⟩ : ∃ r, I.sumR S S' = r := ⟨_, rfl⟩
  rw [hr1] at hc
  obtain ⟨s, e1⟩ := r1
  have HR1 := Lib.hid hr1
  clear h1 h2 k1 k2 hr1
  unfold I.tv at hc
  unfold sv
  go_enter Tryd.func19, Tryd.ntmps19
  go_wp2_with fail
  refine hc.mono ?_
  rintro e w1 ⟨v1, rfl, ht1, hb1⟩
  simp only at ht1 ⊢
  obtain ⟨o1, A1, n1, c1, rfl⟩ := ht1.form
  have HX1 := Lib.hid (((HX0.out.next hb1).i ht1).two (.bool o1) (.slice A1 n1 c1) 24)
  simp only [List.nil_append, List.cons_append] at HX1
  have sz1 : w.heap.size + 3 ≤ w1.heap.size := by
    have h1 := hb1.size
    have h2 := (HX0.out.box (w.heap.size + 1 + 1, 4) (by simp)).1.lt
    omega
  clear hc hb1 ht1 HX0
  unfold I.tv
  go_upto_region 2 with fail
  generalize w1.alloc (.cells #[.bool o1, .slice A1 n1 c1] 24) = w2 at *
  by_cases he1 : e1 = 0
  · subst he1
    have f := HX1.out.at0
    simp only [List.mem_cons, List.not_mem_nil, or_false, forall_eq_or_imp, forall_eq] at f
    obtain ⟨p0, p1, p2, p3, p4, p5, p6, p7, p8, p9, p10, p11, p12, p13⟩ := f
    have hc := E.join_arg (H2.out.up HX1.out.bel) (K2.out.up HX1.out.bel)
    obtain ⟨r2, hr2⟩ : ∃ r, E.joinR T T' = r := ⟨_, rfl⟩
    rw [hr2] at hc
    obtain ⟨x, e2⟩ := r2
    have HR2 := Lib.hid hr2
    clear hr2
    unfold E.tv at hc
    go_wp2_with fail
    refine hc.mono ?_
    rintro e w3 ⟨v3, rfl, ht3, hb3⟩
    obtain ⟨A3, n3, c3, rfl⟩ := E.InP.form ht3
    simp only at ht3 ⊢
    have ht3' := E.InP.old ht3
    obtain ⟨z3, hz3⟩ : ∃ z3, x.N = z3 := ⟨_, rfl⟩
    rw [hz3] at ht3' ⊢
    have HZ3 := Lib.hid hz3
    have HX3 := Lib.hid (((HX1.out.next hb3).e ht3').two (.int .i64 z3) (.slice A3 n3 c3) 27)
    simp only [List.nil_append, List.cons_append] at HX3
    clear hc hb3 ht3 ht3' hz3 HX1
    clear p0 p1 p2 p3 p4 p5 p6 p7 p8 p9 p10 p11 p12 p13
    unfold E.tv
    go_upto_region 5 with fail
    generalize w3.alloc (.cells #[.int .i64 z3, .slice A3 n3 c3] 27) = w4 at *
    by_cases he2 : e2 = 0
    · subst he2
      have f := HX3.out.at0
      simp only [List.mem_cons, List.not_mem_nil, or_false, forall_eq_or_imp, forall_eq] at f
      obtain ⟨p0, p1, p2, p3, p4, p5, p6, p7, p8, p9, p10, p11, p12, p13, p14, p15⟩ := f
      obtain ⟨y0, y1, y2, y3, ⟨q0, q1, q2, q3⟩, r0, r1, r2, r3⟩ := HX3.out.facts4 (w.heap.size + 1 + 1) (by simp)
      have HX4 := Lib.hid ((HX3.out.sub (bs' := []) (rs' := [(w.heap.size + 1 + 1, 4)]) (is' := [(s, I.tv o1 A1 n1 c1)]) (es' := [(x, E.tv z3 A3 n3 c3)]) (by simp) (by simp) (by simp) (by simp)).set4 (w.heap.size + 1 + 1) o1 (.slice A1 n1 c1) z3 (.slice A3 n3 c3) (by simp) (by simp) (by simp))
      clear HX3
      go_wp2
      have f := HX4.out.at0
      simp only [List.mem_cons, List.not_mem_nil, or_false, forall_eq_or_imp, forall_eq] at f
      obtain ⟨f0, f1, f2, f3⟩ := f
      refine bodyPost_ret (v := .tuple #[sv o1 A1 n1 c1 z3 A3 n3 c3, .int .i64 0]) (by simp [results, Tryd.f19, go_sem, sv, f0, f1, f2, f3]) rfl ?_
      have HPN : joinS S T S' T' = ((s, x), 0) := by simp [joinS, HR1.out, HR2.out]
      rw [HPN]
      exact ⟨_, rfl, ⟨o1, A1, n1, c1, A3, n3, c3, by simp only; rw [HZ3.out], HX4.out.iget (by simp), by simp only; rw [HZ3.out]; exact HX4.out.eget (by simp)⟩, HX4.out.bel⟩
    · have heb : (e2 != 0) = true := by simpa using he2
      have hec : (e2 == 0) = false := beq_eq_false_iff_ne.2 he2
      have HPN : Hid (joinS S T S' T' = (zeroS, e2)) := Lib.hid (by simp [joinS, HR1.out, HR2.out, he2])
      clear he2
      have f := HX3.out.at0
      simp only [List.mem_cons, List.not_mem_nil, or_false, forall_eq_or_imp, forall_eq] at f
      obtain ⟨p0, p1, p2, p3, p4, p5, p6, p7, p8, p9, p10, p11, p12, p13, p14, p15⟩ := f
      obtain ⟨y0, y1, y2, y3, ⟨q0, q1, q2, q3⟩, r0, r1, r2, r3⟩ := HX3.out.facts4 (w.heap.size + 1 + 1) (by simp)
      have HX9 := Lib.hid ((HX3.out.sub0 (bs' := []) (rs' := [(w.heap.size + 1 + 1, 4)]) (by simp) (by simp)).set4 (w.heap.size + 1 + 1) false (.slice none 0 0) 0 (.slice none 0 0) (by simp) (by simp) (by simp))
      clear HX3
      go_wp2
      have f := HX9.out.at0
      simp only [List.mem_cons, List.not_mem_nil, or_false, forall_eq_or_imp, forall_eq] at f
      obtain ⟨f0, f1, f2, f3⟩ := f
      refine bodyPost_ret (v := .tuple #[sv false none 0 0 0 none 0 0, .int .i64 e2]) (by simp [results, Tryd.f19, go_sem, sv, f0, f1, f2, f3]) rfl ?_
      rw [HPN.out]
      exact ⟨_, rfl, SIn.zero _, HX9.out.bel⟩
  · have heb : (e1 != 0) = true := by simpa using he1
    have hec : (e1 == 0) = false := beq_eq_false_iff_ne.2 he1
    have HPN : Hid (joinS S T S' T' = (zeroS, e1)) := Lib.hid (by simp [joinS, HR1.out, he1])
    clear he1
    have f := HX1.out.at0
    simp only [List.mem_cons, List.not_mem_nil, or_false, forall_eq_or_imp, forall_eq] at f
    obtain ⟨p0, p1, p2, p3, p4, p5, p6, p7, p8, p9, p10, p11, p12, p13⟩ := f
    obtain ⟨y0, y1, y2, y3, ⟨q0, q1, q2, q3⟩, r0, r1, r2, r3⟩ := HX1.out.facts4 (w.heap.size + 1 + 1) (by simp)
    have HX9 := Lib.hid ((HX1.out.sub0 (bs' := []) (rs' := [(w.heap.size + 1 + 1, 4)]) (by simp) (by simp)).set4 (w.heap.size + 1 + 1) false (.slice none 0 0) 0 (.slice none 0 0) (by simp) (by simp) (by simp))
    clear HX1
    go_wp2
    have f := HX9.out.at0
    simp only [List.mem_cons, List.not_mem_nil, or_false, forall_eq_or_imp, forall_eq] at f
    obtain ⟨f0, f1, f2, f3⟩ := f
    refine bodyPost_ret (v := .tuple #[sv false none 0 0 0 none 0 0, .int .i64 e1]) (by simp [results, Tryd.f19, go_sem, sv, f0, f1, f2, f3]) rfl ?_
    rw [HPN.out]
    exact ⟨_, rfl, SIn.zero _, HX9.out.bel⟩
end Go.Proofs.YtoaglkjpjolacaaDoor.S
