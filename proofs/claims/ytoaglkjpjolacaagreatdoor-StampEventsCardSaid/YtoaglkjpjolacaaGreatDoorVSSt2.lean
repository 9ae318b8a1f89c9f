/-
  Stamps: Peek and Fork, the program's and the reference's.
-/
import Derived.Test.YtoaglkjpjolacaaGreatDoorVS1
namespace Go.Proofs.YtoaglkjpjolacaaGreatDoor.S
open Go.RowKit
def forkR : Option I.Tr → Option E.Tr → (I.Tr × E.Tr) × (I.Tr × E.Tr) × Int
  | some i, some x => if (I.splitR (some i)).2 = 0 then (((I.splitR (some i)).1.1, x.norm), ((I.splitR (some i)).1.2, x.norm), 0) else (zeroS, zeroS, (I.splitR (some i)).2)
  | _, _ => (zeroS, zeroS, 2)
theorem fork_none {S : Option I.Tr} {T : Option E.Tr} (h : (S.isSome && T.isSome) = false) : forkR S T = (zeroS, zeroS, 2) := by cases S <;> cases T <;> simp [forkR] at h ⊢
theorem both_some {S : Option I.Tr} {T : Option E.Tr} (h : (S.isSome && T.isSome) = true) : ∃ i x, S = some i ∧ T = some x := by
  cases S with
  | none => simp at h
  | some i => cases T with
    | none => simp at h
    | some x => exact ⟨i, x, rfl, rfl⟩
set_option maxRecDepth 100000 in
set_option maxHeartbeats 6400000 in
theorem fork_any {w : World} {S : Option I.Tr} {T : Option E.Tr} {v : Value} (h : SArg w S T v) : Calls Tryz.prog 21 #[v] w (AnsS2 (forkR S T) w) := by
  have HH := Lib.hid h
  obtain ⟨o, A, n, c, z, A', n', c', rfl, h1, h2⟩ := h
  have HX0 := Lib.hid ((((SX.begin w).four o (.slice A n c) z (.slice A' n' c') 29).four false (.slice none 0 0) 0 (.slice none 0 0) 29).four false (.slice none 0 0) 0 (.slice none 0 0) 29)
  simp only [List.nil_append, List.cons_append, World.size_alloc] at HX0
  have H1 := Lib.hid h1
  have H2 := Lib.hid h2
  have hc := right_any (HH.out.up HX0.out.bel)
  obtain ⟨a, ha⟩ : ∃ a, (S.isSome && T.isSome) = a := ⟨_, rfl⟩
  rw [ha] at hc
  clear h1 h2
  unfold sv at hc ⊢
  go_enter Tryz.func21, Tryz.ntmps21
  go_wp2_with fail
  refine hc.mono ?_
  rintro e w1 ⟨rfl, hb1⟩
  have HX1 := Lib.hid (HX0.out.next hb1)
  clear hc hb1 HX0
  cases a with
  | false =>
    have HPN := Lib.hid (fork_none ha)
    clear ha
    obtain ⟨y0, y1, y2, y3, ⟨q0, q1, q2, q3⟩, r0, r1, r2, r3⟩ := HX1.out.facts4 (w.heap.size + 1) (by simp)
    obtain ⟨x0, x1, x2, x3, ⟨s0, s1, s2, s3⟩, t0, t1, t2, t3⟩ := HX1.out.facts4 (w.heap.size + 1 + 1) (by simp)
    have HX7 := Lib.hid (((HX1.out.sub0 (bs' := []) (rs' := [(w.heap.size + 1, 4), (w.heap.size + 1 + 1, 4)]) (by simp) (by simp)).set4 (w.heap.size + 1) false (.slice none 0 0) 0 (.slice none 0 0) (by simp) (by simp) (by simp)).set4 (w.heap.size + 1 + 1) false (.slice none 0 0) 0 (.slice none 0 0) (by simp) (by simp only [List.mem_cons, List.not_mem_nil, or_false, forall_eq_or_imp, forall_eq]; omega) (by simp))
    clear HX1
    go_wp2
    have f := HX7.out.at0
    simp only [List.mem_cons, List.not_mem_nil, or_false, forall_eq_or_imp, forall_eq] at f
    obtain ⟨f0, f1, f2, f3, f4, f5, f6, f7⟩ := f
    refine bodyPost_ret (v := .tuple #[sv false none 0 0 0 none 0 0, sv false none 0 0 0 none 0 0, .int .i64 2]) (by simp [results, Tryz.f21, go_sem, sv, f0, f1, f2, f3, f4, f5, f6, f7]) rfl ?_
    rw [HPN.out]
    exact ⟨_, _, rfl, SIn.zero _, SIn.zero _, HX7.out.bel⟩
  | true =>
    obtain ⟨i, x, rfl, rfl⟩ := both_some ha
    clear ha
    have f := HX1.out.at0
    simp only [List.mem_cons, List.not_mem_nil, or_false, forall_eq_or_imp, forall_eq] at f
    obtain ⟨p0, p1, p2, p3, p4, p5, p6, p7, p8, p9, p10, p11⟩ := f
    have hc := I.split_arg (H1.out.up HX1.out.bel)
    obtain ⟨sp, hsp⟩ : ∃ sp, I.splitR (some i) = sp := ⟨_, rfl⟩
    rw [hsp] at hc
    have HSP := Lib.hid hsp
    obtain ⟨⟨s1, s2⟩, k⟩ := sp
    clear hsp
    unfold I.tv at hc
    go_wp2_with fail
    refine hc.mono ?_
    rintro e w2 ⟨v1, v2, rfl, ht1, ht2, hb2⟩
    simp only at ht1 ht2 ⊢
    obtain ⟨o1, A1, n1, c1, rfl⟩ := ht1.form
    obtain ⟨o2, A2, n2, c2, rfl⟩ := ht2.form
    have HX2 := Lib.hid (((((HX1.out.next hb2).i ht1).i ht2).two (.bool o1) (.slice A1 n1 c1) 24).two (.bool o2) (.slice A2 n2 c2) 24)
    simp only [List.nil_append, List.cons_append, World.size_alloc] at HX2
    have sz2 : w.heap.size + 3 ≤ w2.heap.size := by
      have h1 := hb2.size
      have h2 := (HX1.out.box (w.heap.size + 1 + 1, 4) (by simp)).1.lt
      omega
    clear hc hb2 ht1 ht2 HX1
    clear p0 p1 p2 p3 p4 p5 p6 p7 p8 p9 p10 p11
    unfold I.tv
    go_upto_region 4 with fail
    generalize (w2.alloc (.cells #[.bool o1, .slice A1 n1 c1] 24)).alloc (.cells #[.bool o2, .slice A2 n2 c2] 24) = w3 at *
    by_cases hk : k = 0
    · subst hk
      have f := HX2.out.at0
      simp only [List.mem_cons, List.not_mem_nil, or_false, forall_eq_or_imp, forall_eq] at f
      obtain ⟨p0, p1, p2, p3, p4, p5, p6, p7, p8, p9, p10, p11, p12, p13, p14, p15⟩ := f
      have hc := E.norm_arg (H2.out.up HX2.out.bel)
      unfold E.tv at hc
      go_wp2_with fail
      refine hc.mono ?_
      rintro e w4 ⟨v3, rfl, ht3, hb3⟩
      obtain ⟨A3, n3, c3, rfl⟩ := E.InP.form ht3
      simp only [E.normR] at ht3 ⊢
      have ht3' := E.InP.old ht3
      obtain ⟨z3, hz3⟩ : ∃ z3, x.norm.N = z3 := ⟨_, rfl⟩
      rw [hz3] at ht3' ⊢
      have sz4 : w2.heap.size + 2 ≤ w4.heap.size := by
        have h1 := hb3.size
        have h2 := (HX2.out.box (w2.heap.size + 1, 2) (by simp)).1.lt
        omega
      have HX4 := Lib.hid (((HX2.out.next hb3).e ht3').two (.int .i64 z3) (.slice A3 n3 c3) 27)
      simp only [List.nil_append, List.cons_append] at HX4
      clear hc hb3 ht3 ht3' HX2
      clear p0 p1 p2 p3 p4 p5 p6 p7 p8 p9 p10 p11 p12 p13 p14 p15
      unfold E.tv
      go_upto_region 7 with fail
      generalize w4.alloc (.cells #[.int .i64 z3, .slice A3 n3 c3] 27) = w5 at *
      have f := HX4.out.at0
      simp only [List.mem_cons, List.not_mem_nil, or_false, forall_eq_or_imp, forall_eq] at f
      obtain ⟨p0, p1, p2, p3, p4, p5, p6, p7, p8, p9, p10, p11, p12, p13, p14, p15, p16, p17⟩ := f
      have hc := E.norm_arg (H2.out.up HX4.out.bel)
      unfold E.tv at hc
      go_wp2_with fail
      refine hc.mono ?_
      rintro e w6 ⟨v3, rfl, ht3, hb3⟩
      obtain ⟨A4, n4, c4, rfl⟩ := E.InP.form ht3
      simp only [E.normR] at ht3 ⊢
      have ht3' := E.InP.old ht3
      rw [hz3] at ht3' ⊢
      have sz6 : w4.heap.size + 1 ≤ w6.heap.size := by
        have h1 := hb3.size
        have h2 := (HX4.out.box (w4.heap.size, 2) (by simp)).1.lt
        omega
      have HX5 := Lib.hid (((HX4.out.next hb3).e ht3').two (.int .i64 z3) (.slice A4 n4 c4) 27)
      simp only [List.nil_append, List.cons_append] at HX5
      clear hc hb3 ht3 ht3' HX4
      clear p0 p1 p2 p3 p4 p5 p6 p7 p8 p9 p10 p11 p12 p13 p14 p15 p16 p17
      unfold E.tv
      go_upto_region 8 with fail
      generalize w6.alloc (.cells #[.int .i64 z3, .slice A4 n4 c4] 27) = w7 at *
      refine wp_region_held_drew (S := fun W => SX w [(w2.heap.size, 0, .bool o1), (w2.heap.size, 1, .slice A1 n1 c1), (w2.heap.size + 1, 0, .bool o2), (w2.heap.size + 1, 1, .slice A2 n2 c2), (w4.heap.size, 0, .int .i64 z3), (w4.heap.size, 1, .slice A3 n3 c3), (w6.heap.size, 0, .int .i64 z3), (w6.heap.size, 1, .slice A4 n4 c4)] [(w.heap.size + 1, 4), (w.heap.size + 1 + 1, 4)] [(s2, I.tv o2 A2 n2 c2), (s1, I.tv o1 A1 n1 c1)] [(x.norm, E.tv z3 A4 n4 c4), (x.norm, E.tv z3 A3 n3 c3)] W) (by kernel_rfl) ((HX5.out.drew).sub (by simp) (by simp) (by simp) (by simp)) (fun hS => ?_)
      have HXd := Lib.hid ((HX5.out.drew).sub (bs' := [(w2.heap.size, 0, .bool o1), (w2.heap.size, 1, .slice A1 n1 c1), (w2.heap.size + 1, 0, .bool o2), (w2.heap.size + 1, 1, .slice A2 n2 c2), (w4.heap.size, 0, .int .i64 z3), (w4.heap.size, 1, .slice A3 n3 c3), (w6.heap.size, 0, .int .i64 z3), (w6.heap.size, 1, .slice A4 n4 c4)]) (rs' := [(w.heap.size + 1, 4), (w.heap.size + 1 + 1, 4)]) (is' := [(s2, I.tv o2 A2 n2 c2), (s1, I.tv o1 A1 n1 c1)]) (es' := [(x.norm, E.tv z3 A4 n4 c4), (x.norm, E.tv z3 A3 n3 c3)]) (by simp) (by simp) (by simp) (by simp))
      clear HX5
      generalize w7.drew = wd at *
      refine wpAnyH_take (i := 0) (v := ?_) rfl (by kernel_rfl) (by kernel_rfl) (by kernel_rfl) (fun _ _ _ h => h) (Or.inl ⟨by kernel_rfl, fun W hW => ?_⟩) hS ?_
      rotate_left
      · have f := hW.at0
        simp only [List.mem_cons, List.not_mem_nil, or_false, forall_eq_or_imp, forall_eq] at f
        obtain ⟨p0, p1, p2, p3, p4, p5, p6, p7⟩ := f
        first | (go_simp; done) | (go_simp; with_reducible rfl)
      refine wpAnyH_take (i := 1) (v := ?_) rfl (by kernel_rfl) (by kernel_rfl) (by kernel_rfl) (fun _ _ _ h => h) (Or.inl ⟨by kernel_rfl, fun W hW => ?_⟩) hS ?_
      rotate_left
      · have f := hW.at0
        simp only [List.mem_cons, List.not_mem_nil, or_false, forall_eq_or_imp, forall_eq] at f
        obtain ⟨p0, p1, p2, p3, p4, p5, p6, p7⟩ := f
        first | (go_simp; done) | (go_simp; with_reducible rfl)
      refine wpAnyH_take (i := 2) (v := ?_) rfl (by kernel_rfl) (by kernel_rfl) (by kernel_rfl) (fun _ _ _ h => h) (Yields.yieldsIf (Or.inl ⟨by kernel_rfl, ?_⟩)) hS ?_
      rotate_left
      · first | (intro w; go_simp; done) | (intro w; go_simp; with_reducible rfl)
      refine wpAnyH_take (i := 3) (v := ?_) rfl (by kernel_rfl) (by kernel_rfl) (by kernel_rfl) (fun _ _ _ h => h) (Or.inl ⟨by kernel_rfl, fun W hW => ?_⟩) hS ?_
      rotate_left
      · have f := hW.at0
        simp only [List.mem_cons, List.not_mem_nil, or_false, forall_eq_or_imp, forall_eq] at f
        obtain ⟨p0, p1, p2, p3, p4, p5, p6, p7⟩ := f
        first | (go_simp; done) | (go_simp; with_reducible rfl)
      refine wpAnyH_take (i := 4) (v := ?_) rfl (by kernel_rfl) (by kernel_rfl) (by kernel_rfl) (fun _ _ _ h => h) (Or.inl ⟨by kernel_rfl, fun W hW => ?_⟩) hS ?_
      rotate_left
      · have f := hW.at0
        simp only [List.mem_cons, List.not_mem_nil, or_false, forall_eq_or_imp, forall_eq] at f
        obtain ⟨p0, p1, p2, p3, p4, p5, p6, p7⟩ := f
        first | (go_simp; done) | (go_simp; with_reducible rfl)
      refine wpAnyH_take (i := 5) (v := ?_) rfl (by kernel_rfl) (by kernel_rfl) (by kernel_rfl) (fun _ _ _ h => h) (Yields.yieldsIf (Or.inl ⟨by kernel_rfl, ?_⟩)) hS ?_
      rotate_left
      · first | (intro w; go_simp; done) | (intro w; go_simp; with_reducible rfl)
      try go_simp
      refine wpAnyH_ready (rs := [6]) (by kernel_rfl) (by simp) ?_
      refine AllReadyH.cons rfl (fun K hK => ?_) AllReadyH.nil
      obtain ⟨y0, y1, y2, y3, ⟨q0, q1, q2, q3⟩, r0, r1, r2, r3⟩ := HXd.out.facts4 (w.heap.size + 1) (by simp)
      go_simp
      go_wp2
      have HXdx := Lib.hid ((HXd.out.sub (bs' := [(w2.heap.size, 0, .bool o1), (w2.heap.size, 1, .slice A1 n1 c1), (w2.heap.size + 1, 0, .bool o2), (w2.heap.size + 1, 1, .slice A2 n2 c2), (w4.heap.size, 0, .int .i64 z3), (w4.heap.size, 1, .slice A3 n3 c3), (w6.heap.size, 0, .int .i64 z3), (w6.heap.size, 1, .slice A4 n4 c4)]) (rs' := [(w.heap.size + 1, 4), (w.heap.size + 1 + 1, 4)]) (is' := [(s2, I.tv o2 A2 n2 c2), (s1, I.tv o1 A1 n1 c1)]) (es' := [(x.norm, E.tv z3 A4 n4 c4), (x.norm, E.tv z3 A3 n3 c3)]) (by simp) (by simp) (by simp) (by simp)).set4 (w.heap.size + 1) o1 (.slice A1 n1 c1) z3 (.slice A3 n3 c3) (by simp) (by simp only [List.mem_cons, List.not_mem_nil, or_false, forall_eq_or_imp, forall_eq]; omega) (by simp; try omega))
      clear q0 q1 q2 q3 r0 r1 r2 r3 HXd
      refine hK.out _ _ (HXdx.out.sub (by simp) (by simp) (by simp) (by simp)) (fun hS => ?_)
      clear hK K
      generalize ((((wd.setCell ⟨w.heap.size + 1, 0, none⟩ (.bool o1)).setCell ⟨w.heap.size + 1, 1, none⟩ (.slice A1 n1 c1)).setCell ⟨w.heap.size + 1, 2, none⟩ (.int .i64 z3)).setCell ⟨w.heap.size + 1, 3, none⟩ (.slice A3 n3 c3)) = wdx at *
      try go_simp
      refine wpAnyH_ready (rs := [7]) (by kernel_rfl) (by simp) ?_
      refine AllReadyH.cons rfl (fun K hK => ?_) AllReadyH.nil
      obtain ⟨y0, y1, y2, y3, ⟨q0, q1, q2, q3⟩, r0, r1, r2, r3⟩ := HXdx.out.facts4 (w.heap.size + 1 + 1) (by simp)
      go_simp
      go_wp2
      have HXdxx := Lib.hid ((HXdx.out.sub (bs' := [(w2.heap.size, 0, .bool o1), (w2.heap.size, 1, .slice A1 n1 c1), (w2.heap.size + 1, 0, .bool o2), (w2.heap.size + 1, 1, .slice A2 n2 c2), (w4.heap.size, 0, .int .i64 z3), (w4.heap.size, 1, .slice A3 n3 c3), (w6.heap.size, 0, .int .i64 z3), (w6.heap.size, 1, .slice A4 n4 c4), (w.heap.size + 1, 0, .bool o1), (w.heap.size + 1, 1, (.slice A1 n1 c1)), (w.heap.size + 1, 2, .int .i64 z3), (w.heap.size + 1, 3, (.slice A3 n3 c3))]) (rs' := [(w.heap.size + 1, 4), (w.heap.size + 1 + 1, 4)]) (is' := [(s2, I.tv o2 A2 n2 c2), (s1, I.tv o1 A1 n1 c1)]) (es' := [(x.norm, E.tv z3 A4 n4 c4), (x.norm, E.tv z3 A3 n3 c3)]) (by simp) (by simp) (by simp) (by simp)).set4 (w.heap.size + 1 + 1) o2 (.slice A2 n2 c2) z3 (.slice A4 n4 c4) (by simp) (by simp only [List.mem_cons, List.not_mem_nil, or_false, forall_eq_or_imp, forall_eq]; omega) (by simp; try omega))
      clear q0 q1 q2 q3 r0 r1 r2 r3 HXdx
      refine hK.out _ _ (HXdxx.out.sub (by simp) (by simp) (by simp) (by simp)) (fun hS => ?_)
      clear hK K
      generalize ((((wdx.setCell ⟨w.heap.size + 1 + 1, 0, none⟩ (.bool o2)).setCell ⟨w.heap.size + 1 + 1, 1, none⟩ (.slice A2 n2 c2)).setCell ⟨w.heap.size + 1 + 1, 2, none⟩ (.int .i64 z3)).setCell ⟨w.heap.size + 1 + 1, 3, none⟩ (.slice A4 n4 c4)) = wdxx at *
      refine wpAnyH_take (i := 8) (v := ?_) rfl (by kernel_rfl) (by kernel_rfl) (by kernel_rfl) (fun _ _ _ h => h) (Yields.yieldsIf (Or.inl ⟨by kernel_rfl, ?_⟩)) hS ?_
      rotate_left
      · first | (intro w; go_simp; done) | (intro w; go_simp; with_reducible rfl)
      try go_simp
      refine wpAnyH_done (by kernel_rfl) ?_ _
      have HXE := Lib.hid (HXdxx.out.sub (bs' := [(w.heap.size + 1 + 1, 0, .bool o2), (w.heap.size + 1 + 1, 1, .slice A2 n2 c2), (w.heap.size + 1 + 1, 2, .int .i64 z3), (w.heap.size + 1 + 1, 3, .slice A4 n4 c4), (w.heap.size + 1, 0, .bool o1), (w.heap.size + 1, 1, .slice A1 n1 c1), (w.heap.size + 1, 2, .int .i64 z3), (w.heap.size + 1, 3, .slice A3 n3 c3)]) (rs' := []) (is' := [(s2, I.tv o2 A2 n2 c2), (s1, I.tv o1 A1 n1 c1)]) (es' := [(x.norm, E.tv z3 A4 n4 c4), (x.norm, E.tv z3 A3 n3 c3)]) (by simp) (by simp) (by simp) (by simp))
      have f := HXE.out.at0
      simp only [List.mem_cons, List.not_mem_nil, or_false, forall_eq_or_imp, forall_eq] at f
      obtain ⟨f0, f1, f2, f3, f4, f5, f6, f7⟩ := f
      go_wp2
      refine bodyPost_ret (v := .tuple #[sv o1 A1 n1 c1 z3 A3 n3 c3, sv o2 A2 n2 c2 z3 A4 n4 c4, .int .i64 0]) (by simp [results, Tryz.f21, go_sem, sv, f0, f1, f2, f3, f4, f5, f6, f7]) rfl ?_
      have HFK : forkR (some i) (some x) = ((s1, x.norm), (s2, x.norm), 0) := by simp [forkR, HSP.out]
      rw [HFK]
      exact ⟨_, _, rfl, ⟨o1, A1, n1, c1, A3, n3, c3, by simp only; rw [hz3], HXE.out.iget (by simp), by simp only; rw [hz3]; exact HXE.out.eget (by simp)⟩, ⟨o2, A2, n2, c2, A4, n4, c4, by simp only; rw [hz3], HXE.out.iget (by simp), by simp only; rw [hz3]; exact HXE.out.eget (by simp)⟩, HXE.out.bel⟩
    · have hkb : (k != 0) = true := by simpa using hk
      have hkc : (k == 0) = false := beq_eq_false_iff_ne.2 hk
      have HPN : Hid (forkR (some i) (some x) = (zeroS, zeroS, k)) := Lib.hid (by simp [forkR, HSP.out, hk])
      clear hk
      have f := HX2.out.at0
      simp only [List.mem_cons, List.not_mem_nil, or_false, forall_eq_or_imp, forall_eq] at f
      obtain ⟨p0, p1, p2, p3, p4, p5, p6, p7, p8, p9, p10, p11, p12, p13, p14, p15⟩ := f
      obtain ⟨y0, y1, y2, y3, ⟨q0, q1, q2, q3⟩, r0, r1, r2, r3⟩ := HX2.out.facts4 (w.heap.size + 1) (by simp)
      obtain ⟨x0, x1, x2, x3, ⟨s0, s1, s2, s3⟩, t0, t1, t2, t3⟩ := HX2.out.facts4 (w.heap.size + 1 + 1) (by simp)
      have HX7 := Lib.hid (((HX2.out.sub0 (bs' := []) (rs' := [(w.heap.size + 1, 4), (w.heap.size + 1 + 1, 4)]) (by simp) (by simp)).set4 (w.heap.size + 1) false (.slice none 0 0) 0 (.slice none 0 0) (by simp) (by simp) (by simp)).set4 (w.heap.size + 1 + 1) false (.slice none 0 0) 0 (.slice none 0 0) (by simp) (by simp only [List.mem_cons, List.not_mem_nil, or_false, forall_eq_or_imp, forall_eq]; omega) (by simp))
      clear HX2
      go_wp2
      have f := HX7.out.at0
      simp only [List.mem_cons, List.not_mem_nil, or_false, forall_eq_or_imp, forall_eq] at f
      obtain ⟨f0, f1, f2, f3, f4, f5, f6, f7⟩ := f
      refine bodyPost_ret (v := .tuple #[sv false none 0 0 0 none 0 0, sv false none 0 0 0 none 0 0, .int .i64 k]) (by simp [results, Tryz.f21, go_sem, sv, f0, f1, f2, f3, f4, f5, f6, f7]) rfl ?_
      rw [HPN.out]
      exact ⟨_, _, rfl, SIn.zero _, SIn.zero _, HX7.out.bel⟩
end Go.Proofs.YtoaglkjpjolacaaGreatDoor.S
