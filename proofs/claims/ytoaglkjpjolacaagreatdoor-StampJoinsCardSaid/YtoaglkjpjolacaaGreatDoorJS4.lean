/-
  Stamps: Join.
-/
import Derived.Test.YtoaglkjpjolacaaGreatDoorJS1
import Derived.Test.YtoaglkjpjolacaaGreatDoorJI4
import Derived.Test.YtoaglkjpjolacaaGreatDoorJE3
import Derived.Test.YtoaglkjpjolacaaGreatDoorJE5
import Derived.Test.YtoaglkjpjolacaaGreatDoorJS3
namespace Go.Proofs.YtoaglkjpjolacaaGreatDoor.S
open Go.RowKit
def joinS (S : Option I.Tr) (T : Option E.Tr) (S' : Option I.Tr) (T' : Option E.Tr) : (I.Tr × E.Tr) × Int :=
  if (I.sumR S S').2 = 0 then (if (E.joinR T T').2 = 0 then (((I.sumR S S').1, (E.joinR T T').1), 0) else (zeroS, (E.joinR T T').2)) else (zeroS, (I.sumR S S').2)
set_option maxRecDepth 100000 in
set_option maxHeartbeats 6400000 in
theorem join_any {w : World} {S S' : Option I.Tr} {T T' : Option E.Tr} {u v : Value} (h : SArg w S T u) (k : SArg w S' T' v) : Calls Tryz.prog 8 #[u, v] w (AnsS (joinS S T S' T') w) := by
  obtain ⟨o, A, n, c, z, A', n', c', rfl, h1, h2⟩ := h
  obtain ⟨p, B, m, d, t, B', m', d', rfl, k1, k2⟩ := k
  have HX0 := Lib.hid ((((SX.begin w).four o (.slice A n c) z (.slice A' n' c') 29).four p (.slice B m d) t (.slice B' m' d') 29).four false (.slice none 0 0) 0 (.slice none 0 0) 29)
  simp only [List.nil_append, List.cons_append, World.size_alloc] at HX0
  have H2 := Lib.hid h2
  have K2 := Lib.hid k2
  have hc := I.sum_arg (h1.up HX0.out.bel) (k1.up HX0.out.bel)
  obtain ⟨r1, hr1⟩ : ∃ r, I.sumR S S' = r := ⟨_, rfl⟩
  rw [hr1] at hc
  obtain ⟨s, e1⟩ := r1
  have HR1 := Lib.hid hr1
  clear h1 h2 k1 k2 hr1
  unfold I.tv at hc
  unfold sv
  go_enter Tryz.func8, Tryz.ntmps8
  go_wp2_with fail
  refine hc.mono ?_
  rintro e w1 ⟨v1, rfl, ht1, hb1⟩
  simp only at ht1 ⊢
  obtain ⟨o1, A1, n1, c1, rfl⟩ := ht1.form
  have HX1 := Lib.hid (((HX0.out.next hb1).i ht1).two (.bool o1) (.slice A1 n1 c1) 24)
  simp only [List.nil_append, List.cons_append] at HX1
  have sz1 : w.heap.size + 3 ≤ w1.heap.size := by
    have h1 := hb1.size
    have h2 := (HX0.out.box (w.heap.size + 1 + 1, 4) (by simp)).1.lt
    omega
  clear hc hb1 ht1 HX0
  unfold I.tv
  go_upto_region 2 with fail
  generalize w1.alloc (.cells #[.bool o1, .slice A1 n1 c1] 24) = w2 at *
  by_cases he1 : e1 = 0
  · subst he1
    have f := HX1.out.at0
    simp only [List.mem_cons, List.not_mem_nil, or_false, forall_eq_or_imp, forall_eq] at f
    obtain ⟨p0, p1, p2, p3, p4, p5, p6, p7, p8, p9, p10, p11, p12, p13⟩ := f
    have hc := E.join_arg (H2.out.up HX1.out.bel) (K2.out.up HX1.out.bel)
    obtain ⟨r2, hr2⟩ : ∃ r, E.joinR T T' = r := ⟨_, rfl⟩
    rw [hr2] at hc
    obtain ⟨x, e2⟩ := r2
    have HR2 := Lib.hid hr2
    clear hr2
    unfold E.tv at hc
    go_wp2_with fail
    refine hc.mono ?_
    rintro e w3 ⟨v3, rfl, ht3, hb3⟩
    obtain ⟨A3, n3, c3, rfl⟩ := E.InP.form ht3
    simp only at ht3 ⊢
    have ht3' := E.InP.old ht3
    obtain ⟨z3, hz3⟩ : ∃ z3, x.N = z3 := ⟨_, rfl⟩
    rw [hz3] at ht3' ⊢
    have HZ3 := Lib.hid hz3
    have HX3 := Lib.hid (((HX1.out.next hb3).e ht3').two (.int .i64 z3) (.slice A3 n3 c3) 27)
    simp only [List.nil_append, List.cons_append] at HX3
    clear hc hb3 ht3 ht3' hz3 HX1
    clear p0 p1 p2 p3 p4 p5 p6 p7 p8 p9 p10 p11 p12 p13
    unfold E.tv
    go_upto_region 5 with fail
    generalize w3.alloc (.cells #[.int .i64 z3, .slice A3 n3 c3] 27) = w4 at *
    by_cases he2 : e2 = 0
    · subst he2
      have f := HX3.out.at0
      simp only [List.mem_cons, List.not_mem_nil, or_false, forall_eq_or_imp, forall_eq] at f
      obtain ⟨p0, p1, p2, p3, p4, p5, p6, p7, p8, p9, p10, p11, p12, p13, p14, p15⟩ := f
      obtain ⟨y0, y1, y2, y3, ⟨q0, q1, q2, q3⟩, r0, r1, r2, r3⟩ := HX3.out.facts4 (w.heap.size + 1 + 1) (by simp)
      have HX4 := Lib.hid ((HX3.out.sub (bs' := []) (rs' := [(w.heap.size + 1 + 1, 4)]) (is' := [(s, I.tv o1 A1 n1 c1)]) (es' := [(x, E.tv z3 A3 n3 c3)]) (by simp) (by simp) (by simp) (by simp)).set4 (w.heap.size + 1 + 1) o1 (.slice A1 n1 c1) z3 (.slice A3 n3 c3) (by simp) (by simp) (by simp))
      clear HX3
      go_wp2
      have f := HX4.out.at0
      simp only [List.mem_cons, List.not_mem_nil, or_false, forall_eq_or_imp, forall_eq] at f
      obtain ⟨f0, f1, f2, f3⟩ := f
      refine bodyPost_ret (v := .tuple #[sv o1 A1 n1 c1 z3 A3 n3 c3, .int .i64 0]) (by simp [results, Tryz.f8, go_sem, sv, f0, f1, f2, f3]) rfl ?_
      have HPN : joinS S T S' T' = ((s, x), 0) := by simp [joinS, HR1.out, HR2.out]
      rw [HPN]
      exact ⟨_, rfl, ⟨o1, A1, n1, c1, A3, n3, c3, by simp only; rw [HZ3.out], HX4.out.iget (by simp), by simp only; rw [HZ3.out]; exact HX4.out.eget (by simp)⟩, HX4.out.bel⟩
    · have heb : (e2 != 0) = true := by simpa using he2
      have hec : (e2 == 0) = false := beq_eq_false_iff_ne.2 he2
      have HPN : Hid (joinS S T S' T' = (zeroS, e2)) := Lib.hid (by simp [joinS, HR1.out, HR2.out, he2])
      clear he2
      have f := HX3.out.at0
      simp only [List.mem_cons, List.not_mem_nil, or_false, forall_eq_or_imp, forall_eq] at f
      obtain ⟨p0, p1, p2, p3, p4, p5, p6, p7, p8, p9, p10, p11, p12, p13, p14, p15⟩ := f
      obtain ⟨y0, y1, y2, y3, ⟨q0, q1, q2, q3⟩, r0, r1, r2, r3⟩ := HX3.out.facts4 (w.heap.size + 1 + 1) (by simp)
      have HX9 := Lib.hid ((HX3.out.sub0 (bs' := []) (rs' := [(w.heap.size + 1 + 1, 4)]) (by simp) (by simp)).set4 (w.heap.size + 1 + 1) false (.slice none 0 0) 0 (.slice none 0 0) (by simp) (by simp) (by simp))
      clear HX3
      go_wp2
      have f := HX9.out.at0
      simp only [List.mem_cons, List.not_mem_nil, or_false, forall_eq_or_imp, forall_eq] at f
      obtain ⟨f0, f1, f2, f3⟩ := f
      refine bodyPost_ret (v := .tuple #[sv false none 0 0 0 none 0 0, .int .i64 e2]) (by simp [results, Tryz.f8, go_sem, sv, f0, f1, f2, f3]) rfl ?_
      rw [HPN.out]
      exact ⟨_, rfl, SIn.zero _, HX9.out.bel⟩
  · have heb : (e1 != 0) = true := by simpa using he1
    have hec : (e1 == 0) = false := beq_eq_false_iff_ne.2 he1
    have HPN : Hid (joinS S T S' T' = (zeroS, e1)) := Lib.hid (by simp [joinS, HR1.out, he1])
    clear he1
    have f := HX1.out.at0
    simp only [List.mem_cons, List.not_mem_nil, or_false, forall_eq_or_imp, forall_eq] at f
    obtain ⟨p0, p1, p2, p3, p4, p5, p6, p7, p8, p9, p10, p11, p12, p13⟩ := f
    obtain ⟨y0, y1, y2, y3, ⟨q0, q1, q2, q3⟩, r0, r1, r2, r3⟩ := HX1.out.facts4 (w.heap.size + 1 + 1) (by simp)
    have HX9 := Lib.hid ((HX1.out.sub0 (bs' := []) (rs' := [(w.heap.size + 1 + 1, 4)]) (by simp) (by simp)).set4 (w.heap.size + 1 + 1) false (.slice none 0 0) 0 (.slice none 0 0) (by simp) (by simp) (by simp))
    clear HX1
    go_wp2
    have f := HX9.out.at0
    simp only [List.mem_cons, List.not_mem_nil, or_false, forall_eq_or_imp, forall_eq] at f
    obtain ⟨f0, f1, f2, f3⟩ := f
    refine bodyPost_ret (v := .tuple #[sv false none 0 0 0 none 0 0, .int .i64 e1]) (by simp [results, Tryz.f8, go_sem, sv, f0, f1, f2, f3]) rfl ?_
    rw [HPN.out]
    exact ⟨_, rfl, SIn.zero _, HX9.out.bel⟩
end Go.Proofs.YtoaglkjpjolacaaGreatDoor.S
namespace Go.Proofs.YtoaglkjpjolacaaGreatDoor.S
open Go.RowKit
set_option maxRecDepth 100000 in
set_option maxHeartbeats 6400000 in
theorem rjoin_any {w : World} {S S' : Option I.Tr} {T T' : Option E.Tr} {u v : Value} (h : SArg w S T u) (k : SArg w S' T' v) : Calls Tryz.prog 9 #[u, v] w (AnsS (joinS S T S' T') w) := by
  obtain ⟨o, A, n, c, z, A', n', c', rfl, h1, h2⟩ := h
  obtain ⟨p, B, m, d, t, B', m', d', rfl, k1, k2⟩ := k
  have HX0 := Lib.hid ((((SX.begin w).four o (.slice A n c) z (.slice A' n' c') 29).four p (.slice B m d) t (.slice B' m' d') 29).four false (.slice none 0 0) 0 (.slice none 0 0) 29)
  simp only [List.nil_append, List.cons_append, World.size_alloc] at HX0
  have H2 := Lib.hid h2
  have K2 := Lib.hid k2
  have hc := I.rsum_arg (h1.up HX0.out.bel) (k1.up HX0.out.bel)
  obtain ⟨r1, hr1⟩ : ∃ r, I.sumR S S' = r := ⟨_, rfl⟩
  rw [hr1] at hc
  obtain ⟨s, e1⟩ := r1
  have HR1 := Lib.hid hr1
  clear h1 h2 k1 k2 hr1
  unfold I.tv at hc
  unfold sv
  go_enter Tryz.func9, Tryz.ntmps9
  go_wp2_with fail
  refine hc.mono ?_
  rintro e w1 ⟨v1, rfl, ht1, hb1⟩
  simp only at ht1 ⊢
  obtain ⟨o1, A1, n1, c1, rfl⟩ := ht1.form
  have HX1 := Lib.hid (((HX0.out.next hb1).i ht1).two (.bool o1) (.slice A1 n1 c1) 24)
  simp only [List.nil_append, List.cons_append] at HX1
  have sz1 : w.heap.size + 3 ≤ w1.heap.size := by
    have h1 := hb1.size
    have h2 := (HX0.out.box (w.heap.size + 1 + 1, 4) (by simp)).1.lt
    omega
  clear hc hb1 ht1 HX0
  unfold I.tv
  go_upto_region 2 with fail
  generalize w1.alloc (.cells #[.bool o1, .slice A1 n1 c1] 24) = w2 at *
  by_cases he1 : e1 = 0
  · subst he1
    have f := HX1.out.at0
    simp only [List.mem_cons, List.not_mem_nil, or_false, forall_eq_or_imp, forall_eq] at f
    obtain ⟨p0, p1, p2, p3, p4, p5, p6, p7, p8, p9, p10, p11, p12, p13⟩ := f
    have hc := E.rjoin_arg (H2.out.up HX1.out.bel) (K2.out.up HX1.out.bel)
    obtain ⟨r2, hr2⟩ : ∃ r, E.joinR T T' = r := ⟨_, rfl⟩
    rw [hr2] at hc
    obtain ⟨x, e2⟩ := r2
    have HR2 := Lib.hid hr2
    clear hr2
    unfold E.tv at hc
    go_wp2_with fail
    refine hc.mono ?_
    rintro e w3 ⟨v3, rfl, ht3, hb3⟩
    obtain ⟨A3, n3, c3, rfl⟩ := E.InP.form ht3
    simp only at ht3 ⊢
    have ht3' := E.InP.old ht3
    obtain ⟨z3, hz3⟩ : ∃ z3, x.N = z3 := ⟨_, rfl⟩
    rw [hz3] at ht3' ⊢
    have HZ3 := Lib.hid hz3
    have HX3 := Lib.hid (((HX1.out.next hb3).e ht3').two (.int .i64 z3) (.slice A3 n3 c3) 27)
    simp only [List.nil_append, List.cons_append] at HX3
    clear hc hb3 ht3 ht3' hz3 HX1
    clear p0 p1 p2 p3 p4 p5 p6 p7 p8 p9 p10 p11 p12 p13
    unfold E.tv
    go_upto_region 5 with fail
    generalize w3.alloc (.cells #[.int .i64 z3, .slice A3 n3 c3] 27) = w4 at *
    by_cases he2 : e2 = 0
    · subst he2
      have f := HX3.out.at0
      simp only [List.mem_cons, List.not_mem_nil, or_false, forall_eq_or_imp, forall_eq] at f
      obtain ⟨p0, p1, p2, p3, p4, p5, p6, p7, p8, p9, p10, p11, p12, p13, p14, p15⟩ := f
      obtain ⟨y0, y1, y2, y3, ⟨q0, q1, q2, q3⟩, r0, r1, r2, r3⟩ := HX3.out.facts4 (w.heap.size + 1 + 1) (by simp)
      have HX4 := Lib.hid ((HX3.out.sub (bs' := []) (rs' := [(w.heap.size + 1 + 1, 4)]) (is' := [(s, I.tv o1 A1 n1 c1)]) (es' := [(x, E.tv z3 A3 n3 c3)]) (by simp) (by simp) (by simp) (by simp)).set4 (w.heap.size + 1 + 1) o1 (.slice A1 n1 c1) z3 (.slice A3 n3 c3) (by simp) (by simp) (by simp))
      clear HX3
      go_wp2
      have f := HX4.out.at0
      simp only [List.mem_cons, List.not_mem_nil, or_false, forall_eq_or_imp, forall_eq] at f
      obtain ⟨f0, f1, f2, f3⟩ := f
      refine bodyPost_ret (v := .tuple #[sv o1 A1 n1 c1 z3 A3 n3 c3, .int .i64 0]) (by simp [results, Tryz.f9, go_sem, sv, f0, f1, f2, f3]) rfl ?_
      have HPN : joinS S T S' T' = ((s, x), 0) := by simp [joinS, HR1.out, HR2.out]
      rw [HPN]
      exact ⟨_, rfl, ⟨o1, A1, n1, c1, A3, n3, c3, by simp only; rw [HZ3.out], HX4.out.iget (by simp), by simp only; rw [HZ3.out]; exact HX4.out.eget (by simp)⟩, HX4.out.bel⟩
    · have heb : (e2 != 0) = true := by simpa using he2
      have hec : (e2 == 0) = false := beq_eq_false_iff_ne.2 he2
      have HPN : Hid (joinS S T S' T' = (zeroS, e2)) := Lib.hid (by simp [joinS, HR1.out, HR2.out, he2])
      clear he2
      have f := HX3.out.at0
      simp only [List.mem_cons, List.not_mem_nil, or_false, forall_eq_or_imp, forall_eq] at f
      obtain ⟨p0, p1, p2, p3, p4, p5, p6, p7, p8, p9, p10, p11, p12, p13, p14, p15⟩ := f
      obtain ⟨y0, y1, y2, y3, ⟨q0, q1, q2, q3⟩, r0, r1, r2, r3⟩ := HX3.out.facts4 (w.heap.size + 1 + 1) (by simp)
      have HX9 := Lib.hid ((HX3.out.sub0 (bs' := []) (rs' := [(w.heap.size + 1 + 1, 4)]) (by simp) (by simp)).set4 (w.heap.size + 1 + 1) false (.slice none 0 0) 0 (.slice none 0 0) (by simp) (by simp) (by simp))
      clear HX3
      go_wp2
      have f := HX9.out.at0
      simp only [List.mem_cons, List.not_mem_nil, or_false, forall_eq_or_imp, forall_eq] at f
      obtain ⟨f0, f1, f2, f3⟩ := f
      refine bodyPost_ret (v := .tuple #[sv false none 0 0 0 none 0 0, .int .i64 e2]) (by simp [results, Tryz.f9, go_sem, sv, f0, f1, f2, f3]) rfl ?_
      rw [HPN.out]
      exact ⟨_, rfl, SIn.zero _, HX9.out.bel⟩
  · have heb : (e1 != 0) = true := by simpa using he1
    have hec : (e1 == 0) = false := beq_eq_false_iff_ne.2 he1
    have HPN : Hid (joinS S T S' T' = (zeroS, e1)) := Lib.hid (by simp [joinS, HR1.out, he1])
    clear he1
    have f := HX1.out.at0
    simp only [List.mem_cons, List.not_mem_nil, or_false, forall_eq_or_imp, forall_eq] at f
    obtain ⟨p0, p1, p2, p3, p4, p5, p6, p7, p8, p9, p10, p11, p12, p13⟩ := f
    obtain ⟨y0, y1, y2, y3, ⟨q0, q1, q2, q3⟩, r0, r1, r2, r3⟩ := HX1.out.facts4 (w.heap.size + 1 + 1) (by simp)
    have HX9 := Lib.hid ((HX1.out.sub0 (bs' := []) (rs' := [(w.heap.size + 1 + 1, 4)]) (by simp) (by simp)).set4 (w.heap.size + 1 + 1) false (.slice none 0 0) 0 (.slice none 0 0) (by simp) (by simp) (by simp))
    clear HX1
    go_wp2
    have f := HX9.out.at0
    simp only [List.mem_cons, List.not_mem_nil, or_false, forall_eq_or_imp, forall_eq] at f
    obtain ⟨f0, f1, f2, f3⟩ := f
    refine bodyPost_ret (v := .tuple #[sv false none 0 0 0 none 0 0, .int .i64 e1]) (by simp [results, Tryz.f9, go_sem, sv, f0, f1, f2, f3]) rfl ?_
    rw [HPN.out]
    exact ⟨_, rfl, SIn.zero _, HX9.out.bel⟩
set_option maxRecDepth 100000 in
set_option maxHeartbeats 1600000 in
theorem rleq_any {w : World} {S S' : Option I.Tr} {T T' : Option E.Tr} {u v : Value} (h : SArg w S T u) (k : SArg w S' T' v) : Calls Tryz.prog 12 #[u, v] w fun e w' => e = .returned (.bool (S.isSome && S'.isSome && E.leqO T T')) ∧ Below w.heap.size w w' := by
  have HH := Lib.hid h
  have HK := Lib.hid k
  obtain ⟨o, A, n, c, z, A', n', c', rfl, h1, h2⟩ := h
  obtain ⟨p, B, m, d, t, B', m', d', rfl, k1, k2⟩ := k
  have HX0 := Lib.hid (((SX.begin w).four o (.slice A n c) z (.slice A' n' c') 29).four p (.slice B m d) t (.slice B' m' d') 29)
  simp only [List.nil_append, List.cons_append, World.size_alloc] at HX0
  have H2 := Lib.hid h2
  have K2 := Lib.hid k2
  have hc := rright_any (HH.out.up HX0.out.bel)
  have HN : Hid ((S.isSome && T.isSome) = false → (S.isSome && S'.isSome && E.leqO T T') = false) := by
    intro h; cases S <;> cases S' <;> cases T <;> cases T' <;> simp [E.leqO] at h ⊢
  have HN' : Hid ((S'.isSome && T'.isSome) = false → (S.isSome && S'.isSome && E.leqO T T') = false) := by
    intro h; cases S <;> cases S' <;> cases T <;> cases T' <;> simp [E.leqO] at h ⊢
  have HY : Hid ((S.isSome && T.isSome) = true → (S'.isSome && T'.isSome) = true → (S.isSome && S'.isSome && E.leqO T T') = E.leqO T T') := by
    intro h h'; cases S <;> cases S' <;> simp at h h' ⊢
  clear h1 h2 k1 k2
  unfold sv at hc ⊢
  obtain ⟨a, ha⟩ : ∃ a, (S.isSome && T.isSome) = a := ⟨_, rfl⟩
  rw [ha] at hc
  have HA := Lib.hid ha
  clear ha
  go_enter Tryz.func12, Tryz.ntmps12
  go_wp2_with fail
  refine hc.mono ?_
  rintro e w1 ⟨rfl, hb1⟩
  have HX1 := Lib.hid (HX0.out.next hb1)
  clear hc hb1 HX0
  have f := HX1.out.at0
  simp only [List.mem_cons, List.not_mem_nil, or_false, forall_eq_or_imp, forall_eq] at f
  obtain ⟨p0, p1, p2, p3, p4, p5, p6, p7⟩ := f
  have hc := rright_any (HK.out.up HX1.out.bel)
  obtain ⟨b, hb⟩ : ∃ b, (S'.isSome && T'.isSome) = b := ⟨_, rfl⟩
  rw [hb] at hc
  have HB := Lib.hid hb
  clear hb
  unfold sv at hc
  go_wp2_with fail
  refine hc.mono ?_
  rintro e w2 ⟨rfl, hb2⟩
  have HX2 := Lib.hid (HX1.out.next hb2)
  clear hc hb2 HX1 p0 p1 p2 p3 p4 p5 p6 p7
  cases a with
  | false =>
    go_wp2
    go_ret
    exact ⟨E.ret_bool (HN.out HA.out).symm, HX2.out.bel⟩
  | true =>
    cases b with
    | false =>
      go_wp2
      go_ret
      exact ⟨E.ret_bool (HN'.out HB.out).symm, HX2.out.bel⟩
    | true =>
      have f := HX2.out.at0
      simp only [List.mem_cons, List.not_mem_nil, or_false, forall_eq_or_imp, forall_eq] at f
      obtain ⟨p0, p1, p2, p3, p4, p5, p6, p7⟩ := f
      have hc := E.rleq_arg (H2.out.up HX2.out.bel) (K2.out.up HX2.out.bel)
      obtain ⟨r, hr⟩ : ∃ r, E.leqO T T' = r := ⟨_, rfl⟩
      have HYE := Lib.hid ((HY.out HA.out HB.out).trans hr)
      rw [hr] at hc
      unfold E.tv at hc
      go_wp2_with fail
      refine hc.mono ?_
      rintro e w3 ⟨rfl, hb3⟩
      have HX3 := Lib.hid (HX2.out.next hb3)
      clear hc hb3 HX2 p0 p1 p2 p3 p4 p5 p6 p7
      go_wp2
      go_ret
      exact ⟨E.ret_bool HYE.out.symm, HX3.out.bel⟩
end Go.Proofs.YtoaglkjpjolacaaGreatDoor.S
namespace Go.Proofs.YtoaglkjpjolacaaGreatDoor.S
open Go.RowKit
set_option maxRecDepth 100000 in
set_option maxHeartbeats 12800000 in
theorem joins_walk (Sa : Option I.Tr) (Ta : Option E.Tr) (a : Value) (Sb : Option I.Tr) (Tb : Option E.Tr) (b : Value) (w : World) (htab : E.Tab w) (ha : SArg w Sa Ta a) (hb : SArg w Sb Tb b) : Calls Tryz.prog 3 #[a, b] w fun e w' => e = .returned (.bool true) ∧ Below w.heap.size w w' := by
  have Ha := Lib.hid ha
  obtain ⟨oa, Aa, na, ca, za, Ba, ma, da, rfl, _, _⟩ := ha
  have Hb := Lib.hid hb
  obtain ⟨ob, Ab, nb, cb, zb, Bb, mb, db, rfl, _, _⟩ := hb
  have HTB := Lib.hid htab
  have HX0 := Lib.hid (((SX.begin w).four oa (.slice Aa na ca) za (.slice Ba ma da) 29).four ob (.slice Ab nb cb) zb (.slice Bb mb db) 29)
  simp only [List.nil_append, List.cons_append, World.size_alloc] at HX0
  clear htab
  unfold sv
  go_enter Tryz.func3, Tryz.ntmps3
  go_wp2_with fail
  refine (shown_any _ (HTB.out.up HX0.out.bel)).mono ?_
  rintro e w1 ⟨rfl, hb1⟩
  have HX1 := Lib.hid (HX0.out.next hb1)
  clear hb1 HX0
  have f := HX1.out.at0
  simp only [List.mem_cons, List.not_mem_nil, or_false, forall_eq_or_imp, forall_eq] at f
  obtain ⟨p0, p1, p2, p3, p4, p5, p6, p7⟩ := f
  have hcall := join_any (Ha.out.up HX1.out.bel) (Hb.out.up HX1.out.bel)
  obtain ⟨rEX, EX0⟩ : ∃ r, joinS Sa Ta Sb Tb = r := ⟨_, rfl⟩
  rw [EX0] at hcall
  obtain ⟨⟨ix, xx⟩, kEX⟩ := rEX
  have EX := Lib.hid EX0
  clear EX0
  unfold sv at hcall
  go_wp2_with fail
  refine hcall.mono ?_
  rintro e w2 ⟨vx, rfl, hx, hb2⟩
  simp only at hx ⊢
  have gx := hx
  obtain ⟨ox, Ax, nx, cx, Bx, mx, dx, rfl, _, _⟩ := gx
  obtain ⟨zx, hzx⟩ : ∃ z, xx.N = z := ⟨_, rfl⟩
  rw [hzx] at hx ⊢
  clear hzx
  have HX2 := Lib.hid ((HX1.out.next hb2).four ox (.slice Ax nx cx) zx (.slice Bx mx dx) 29)
  simp only [List.nil_append, List.cons_append] at HX2
  have hbx : Below w2.heap.size w2 (w2.alloc (.cells #[.bool ox, .slice Ax nx cx, .int .i64 zx, .slice Bx mx dx] 29)) := (Below.refl _ w2).alloc (Nat.le_refl _) _
  have hby := hb2.trans (hbx.mono hb2.size)
  have Ux2 := Lib.hid (hx.up hbx)
  clear hcall hbx hby hb2 HX1 hx p0 p1 p2 p3 p4 p5 p6 p7
  unfold sv
  go_upto_region 3 with fail
  generalize (w2.alloc (.cells #[.bool ox, .slice Ax nx cx, .int .i64 zx, .slice Bx mx dx] 29)) = v2w at *
  have f := HX2.out.at0
  simp only [List.mem_cons, List.not_mem_nil, or_false, forall_eq_or_imp, forall_eq] at f
  obtain ⟨p0, p1, p2, p3, p4, p5, p6, p7, p8, p9, p10, p11⟩ := f
  have hcall := rjoin_any (Ha.out.up HX2.out.bel) (Hb.out.up HX2.out.bel)
  obtain ⟨rEY, EY0⟩ : ∃ r, joinS Sa Ta Sb Tb = r := ⟨_, rfl⟩
  rw [EY0] at hcall
  obtain ⟨⟨iy, xy⟩, kEY⟩ := rEY
  have EY := Lib.hid EY0
  clear EY0
  unfold sv at hcall
  go_wp2_with fail
  refine hcall.mono ?_
  rintro e w3 ⟨vy, rfl, hy, hb3⟩
  simp only at hy ⊢
  have gy := hy
  obtain ⟨oy, Ay, ny, cy, By, my, dy, rfl, _, _⟩ := gy
  obtain ⟨zy, hzy⟩ : ∃ z, xy.N = z := ⟨_, rfl⟩
  rw [hzy] at hy ⊢
  clear hzy
  have HX3 := Lib.hid ((HX2.out.next hb3).four oy (.slice Ay ny cy) zy (.slice By my dy) 29)
  simp only [List.nil_append, List.cons_append] at HX3
  have hbx : Below w3.heap.size w3 (w3.alloc (.cells #[.bool oy, .slice Ay ny cy, .int .i64 zy, .slice By my dy] 29)) := (Below.refl _ w3).alloc (Nat.le_refl _) _
  have hby := hb3.trans (hbx.mono hb3.size)
  have Ux3 := Lib.hid (Ux2.out.up hby)
  clear Ux2
  have Uy3 := Lib.hid (hy.up hbx)
  clear hcall hbx hby hb3 HX2 hy p0 p1 p2 p3 p4 p5 p6 p7 p8 p9 p10 p11
  unfold sv
  go_upto_region 4 with fail
  generalize (w3.alloc (.cells #[.bool oy, .slice Ay ny cy, .int .i64 zy, .slice By my dy] 29)) = v3w at *
  have f := HX3.out.at0
  simp only [List.mem_cons, List.not_mem_nil, or_false, forall_eq_or_imp, forall_eq] at f
  obtain ⟨p0, p1, p2, p3, p4, p5, p6, p7, p8, p9, p10, p11, p12, p13, p14, p15⟩ := f
  have hpq := EX.out.symm.trans EY.out
  simp only [Prod.mk.injEq] at hpq
  obtain ⟨⟨rfl, rfl⟩, rfl⟩ := hpq
  clear p0 p1 p2 p3 p4 p5 p6 p7 p8 p9 p10 p11 p12 p13 p14 p15
  have hkk : (kEX == kEX) = true := by simp
  obtain ⟨lq, hlq⟩ : ∃ lq, (Sa.isSome && Sb.isSome && E.leqO Ta Tb) = lq := ⟨_, rfl⟩
  have HLQ := Lib.hid hlq
  clear hlq
  have hll : (lq == lq) = true := by simp
  have hbD : Below v3w.heap.size v3w v3w.drew := (Below.refl _ _).drew
  have Ux4 := Lib.hid (Ux3.out.up hbD)
  clear Ux3
  have Uy4 := Lib.hid (Uy3.out.up hbD)
  clear Uy3
  refine wp_region_held_drew (S := fun W => SX w [(w.heap.size, 0, .bool oa), (w.heap.size, 1, .slice Aa na ca), (w.heap.size, 2, .int .i64 za), (w.heap.size, 3, .slice Ba ma da), (w.heap.size + 1, 0, .bool ob), (w.heap.size + 1, 1, .slice Ab nb cb), (w.heap.size + 1, 2, .int .i64 zb), (w.heap.size + 1, 3, .slice Bb mb db), (w2.heap.size, 0, .bool ox), (w2.heap.size, 1, .slice Ax nx cx), (w2.heap.size, 2, .int .i64 zx), (w2.heap.size, 3, .slice Bx mx dx), (w3.heap.size, 0, .bool oy), (w3.heap.size, 1, .slice Ay ny cy), (w3.heap.size, 2, .int .i64 zy), (w3.heap.size, 3, .slice By my dy)] [] [] [] W) (by kernel_rfl) ((HX3.out.drew).sub0 (by simp) (by simp)) (fun hS => ?_)
  have HXd : Hid (SX w [(w.heap.size, 0, .bool oa), (w.heap.size, 1, .slice Aa na ca), (w.heap.size, 2, .int .i64 za), (w.heap.size, 3, .slice Ba ma da), (w.heap.size + 1, 0, .bool ob), (w.heap.size + 1, 1, .slice Ab nb cb), (w.heap.size + 1, 2, .int .i64 zb), (w.heap.size + 1, 3, .slice Bb mb db), (w2.heap.size, 0, .bool ox), (w2.heap.size, 1, .slice Ax nx cx), (w2.heap.size, 2, .int .i64 zx), (w2.heap.size, 3, .slice Bx mx dx), (w3.heap.size, 0, .bool oy), (w3.heap.size, 1, .slice Ay ny cy), (w3.heap.size, 2, .int .i64 zy), (w3.heap.size, 3, .slice By my dy)] [] [] [] v3w.drew) := Lib.hid ((HX3.out.drew).sub0 (by simp) (by simp))
  clear HX3 hbD
  generalize v3w.drew = wd at *
  refine wpAnyH_take (i := 0) (v := ?_) rfl (by kernel_rfl) (by kernel_rfl) (by kernel_rfl) (fun _ _ _ h => h) (Yields.yieldsIf (Or.inl ⟨by kernel_rfl, ?_⟩)) hS ?_
  rotate_left
  · first | (intro w; go_simp; done) | (intro w; go_simp; with_reducible rfl)
  refine wpAnyH_take (i := 1) (v := ?_) rfl (by kernel_rfl) (by kernel_rfl) (by kernel_rfl) (fun _ _ _ h => h) (Yields.yieldsIf (Or.inl ⟨by kernel_rfl, ?_⟩)) hS ?_
  rotate_left
  · first | (intro w; go_simp; done) | (intro w; go_simp; with_reducible rfl)
  refine wpAnyH_take (i := 2) (v := ?_) rfl (by kernel_rfl) (by kernel_rfl) (by kernel_rfl) (fun _ _ _ h => h) (Or.inl ⟨by kernel_rfl, fun W hW => ?_⟩) hS ?_
  rotate_left
  · have f := hW.at0
    simp only [List.mem_cons, List.not_mem_nil, or_false, forall_eq_or_imp, forall_eq] at f
    obtain ⟨p0, p1, p2, p3, p4, p5, p6, p7, p8, p9, p10, p11, p12, p13, p14, p15⟩ := f
    first | (go_simp; done) | (go_simp; with_reducible rfl)
  refine wpAnyH_take (i := 3) (v := ?_) rfl (by kernel_rfl) (by kernel_rfl) (by kernel_rfl) (fun _ _ _ h => h) (Or.inl ⟨by kernel_rfl, fun W hW => ?_⟩) hS ?_
  rotate_left
  · have f := hW.at0
    simp only [List.mem_cons, List.not_mem_nil, or_false, forall_eq_or_imp, forall_eq] at f
    obtain ⟨p0, p1, p2, p3, p4, p5, p6, p7, p8, p9, p10, p11, p12, p13, p14, p15⟩ := f
    first | (go_simp; done) | (go_simp; with_reducible rfl)
  try go_simp
  refine wpAnyH_ready (rs := [4]) (by kernel_rfl) (by simp) ?_
  refine AllReadyH.cons rfl (fun K hK => ?_) AllReadyH.nil
  have hcall := equal_any Ux4.out Uy4.out
  rw [I.eqT_refl, E.eqT_refl] at hcall
  simp only [Bool.and_true] at hcall
  unfold sv at hcall
  go_simp
  go_wp2_with fail
  refine hcall.mono ?_
  rintro e wdx ⟨rfl, hbx⟩
  have HXdx := Lib.hid (HXd.out.next hbx)
  clear hcall hbx HXd
  refine hK.out _ _ (HXdx.out) (fun hS => ?_)
  clear hK K
  refine wpAnyH_take (i := 5) (v := ?_) rfl (by kernel_rfl) (by kernel_rfl) (by kernel_rfl) (fun _ _ _ h => h) (Yields.yieldsIf (Or.inl ⟨by kernel_rfl, ?_⟩)) hS ?_
  rotate_left
  · first | (intro w; go_simp; done) | (intro w; go_simp; with_reducible rfl)
  refine wpAnyH_take (i := 6) (v := ?_) rfl (by kernel_rfl) (by kernel_rfl) (by kernel_rfl) (fun _ _ _ h => h) (Yields.yieldsIf (Or.inl ⟨by kernel_rfl, ?_⟩)) hS ?_
  rotate_left
  · first | (intro w; go_simp; done) | (intro w; go_simp; with_reducible rfl)
  refine wpAnyH_take (i := 7) (v := ?_) rfl (by kernel_rfl) (by kernel_rfl) (by kernel_rfl) (fun _ _ _ h => h) (Yields.yieldsIf (Or.inl ⟨by kernel_rfl, ?_⟩)) hS ?_
  rotate_left
  · first | (intro w; go_simp; done) | (intro w; go_simp; with_reducible rfl)
  refine wpAnyH_take (i := 8) (v := ?_) rfl (by kernel_rfl) (by kernel_rfl) (by kernel_rfl) (fun _ _ _ h => h) (Yields.yieldsIf (Or.inl ⟨by kernel_rfl, ?_⟩)) hS ?_
  rotate_left
  · first | (intro w; go_simp; done) | (intro w; go_simp; with_reducible rfl)
  refine wpAnyH_take (i := 9) (v := ?_) rfl (by kernel_rfl) (by kernel_rfl) (by kernel_rfl) (fun _ _ _ h => h) (Yields.yieldsIf (Or.inl ⟨by kernel_rfl, ?_⟩)) hS ?_
  rotate_left
  · first | (intro w; go_simp; done) | (intro w; go_simp; with_reducible rfl)
  refine wpAnyH_take (i := 10) (v := ?_) rfl (by kernel_rfl) (by kernel_rfl) (by kernel_rfl) (fun _ _ _ h => h) (Yields.yieldsIf (Or.inl ⟨by kernel_rfl, ?_⟩)) hS ?_
  rotate_left
  · first | (intro w; go_simp; done) | (intro w; go_simp; with_reducible rfl)
  refine wpAnyH_take (i := 11) (v := ?_) rfl (by kernel_rfl) (by kernel_rfl) (by kernel_rfl) (fun _ _ _ h => h) (Yields.yieldsIf (Or.inl ⟨by kernel_rfl, ?_⟩)) hS ?_
  rotate_left
  · first | (intro w; go_simp; done) | (intro w; go_simp; with_reducible rfl)
  refine wpAnyH_take (i := 12) (v := ?_) rfl (by kernel_rfl) (by kernel_rfl) (by kernel_rfl) (fun _ _ _ h => h) (Or.inl ⟨by kernel_rfl, fun W hW => ?_⟩) hS ?_
  rotate_left
  · have f := hW.at0
    simp only [List.mem_cons, List.not_mem_nil, or_false, forall_eq_or_imp, forall_eq] at f
    obtain ⟨p0, p1, p2, p3, p4, p5, p6, p7, p8, p9, p10, p11, p12, p13, p14, p15⟩ := f
    first | (go_simp; done) | (go_simp; with_reducible rfl)
  refine wpAnyH_take (i := 13) (v := ?_) rfl (by kernel_rfl) (by kernel_rfl) (by kernel_rfl) (fun _ _ _ h => h) (Or.inl ⟨by kernel_rfl, fun W hW => ?_⟩) hS ?_
  rotate_left
  · have f := hW.at0
    simp only [List.mem_cons, List.not_mem_nil, or_false, forall_eq_or_imp, forall_eq] at f
    obtain ⟨p0, p1, p2, p3, p4, p5, p6, p7, p8, p9, p10, p11, p12, p13, p14, p15⟩ := f
    first | (go_simp; done) | (go_simp; with_reducible rfl)
  refine wpAnyH_take (i := 15) (v := ?_) rfl (by kernel_rfl) (by kernel_rfl) (by kernel_rfl) (fun _ _ _ h => h) (Or.inl ⟨by kernel_rfl, fun W hW => ?_⟩) hS ?_
  rotate_left
  · have f := hW.at0
    simp only [List.mem_cons, List.not_mem_nil, or_false, forall_eq_or_imp, forall_eq] at f
    obtain ⟨p0, p1, p2, p3, p4, p5, p6, p7, p8, p9, p10, p11, p12, p13, p14, p15⟩ := f
    first | (go_simp; done) | (go_simp; with_reducible rfl)
  refine wpAnyH_take (i := 16) (v := ?_) rfl (by kernel_rfl) (by kernel_rfl) (by kernel_rfl) (fun _ _ _ h => h) (Or.inl ⟨by kernel_rfl, fun W hW => ?_⟩) hS ?_
  rotate_left
  · have f := hW.at0
    simp only [List.mem_cons, List.not_mem_nil, or_false, forall_eq_or_imp, forall_eq] at f
    obtain ⟨p0, p1, p2, p3, p4, p5, p6, p7, p8, p9, p10, p11, p12, p13, p14, p15⟩ := f
    first | (go_simp; done) | (go_simp; with_reducible rfl)
  try go_simp
  refine wpAnyH_ready (rs := [14]) (by kernel_rfl) (by simp) ?_
  refine AllReadyH.cons rfl (fun K hK => ?_) AllReadyH.nil
  have hcall := leq_any (Ha.out.up HXdx.out.bel) (Hb.out.up HXdx.out.bel)
  rw [HLQ.out] at hcall
  unfold sv at hcall
  go_simp
  go_wp2_with fail
  refine hcall.mono ?_
  rintro e wdxx ⟨rfl, hbx⟩
  have HXdxx := Lib.hid (HXdx.out.next hbx)
  clear hcall hbx HXdx
  refine hK.out _ _ (HXdxx.out) (fun hS => ?_)
  clear hK K
  try go_simp
  refine wpAnyH_ready (rs := [17]) (by kernel_rfl) (by simp) ?_
  refine AllReadyH.cons rfl (fun K hK => ?_) AllReadyH.nil
  have hcall := rleq_any (Ha.out.up HXdxx.out.bel) (Hb.out.up HXdxx.out.bel)
  rw [HLQ.out] at hcall
  unfold sv at hcall
  go_simp
  go_wp2_with fail
  refine hcall.mono ?_
  rintro e wdxxx ⟨rfl, hbx⟩
  have HXdxxx := Lib.hid (HXdxx.out.next hbx)
  clear hcall hbx HXdxx
  refine hK.out _ _ (HXdxxx.out) (fun hS => ?_)
  clear hK K
  refine wpAnyH_take (i := 18) (v := ?_) rfl (by kernel_rfl) (by kernel_rfl) (by kernel_rfl) (fun _ _ _ h => h) (Yields.yieldsIf (Or.inl ⟨by kernel_rfl, ?_⟩)) hS ?_
  rotate_left
  · first | (intro w; go_simp; done) | (intro w; go_simp; with_reducible rfl)
  refine wpAnyH_take (i := 19) (v := ?_) rfl (by kernel_rfl) (by kernel_rfl) (by kernel_rfl) (fun _ _ _ h => h) (Yields.yieldsIf (Or.inl ⟨by kernel_rfl, ?_⟩)) hS ?_
  rotate_left
  · first | (intro w; go_simp; done) | (intro w; go_simp; with_reducible rfl)
  refine wpAnyH_take (i := 20) (v := ?_) rfl (by kernel_rfl) (by kernel_rfl) (by kernel_rfl) (fun _ _ _ h => h) (Yields.yieldsIf (Or.inl ⟨by kernel_rfl, ?_⟩)) hS ?_
  rotate_left
  · first | (intro w; go_simp; done) | (intro w; go_simp; with_reducible rfl)
  try go_simp
  refine wpAnyH_done (by kernel_rfl) ?_ _
  have HEND := Lib.hid HXdxxx.out.bel
  clear HXdxxx
  go_wp2
  go_ret
  exact ⟨rfl, HEND.out⟩
end Go.Proofs.YtoaglkjpjolacaaGreatDoor.S
