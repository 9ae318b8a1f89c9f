/-
  Stamps: the reference's fill.
-/
import Derived.Test.YtoaglkjpjolacaaGreatDoorVS1
import Derived.Test.YtoaglkjpjolacaaGreatDoorVE5
namespace Go.Proofs.YtoaglkjpjolacaaGreatDoor.S
open Go.RowKit
set_option maxHeartbeats 800000 in
theorem rnone_any (t : I.Tr) (v : Value) (w : World) {B : Nat} (h : I.InT w B t v) : Calls Tryz.prog 40 #[v] w fun e w' => e = .returned (.bool (zero t)) ∧ Below w.heap.size w w' := by
  obtain ⟨o, A, n, c, rfl⟩ := h.form
  have HZ := Lib.hid (zero_in h)
  have HB : Hid (Below w.heap.size w (w.alloc (.cells #[.bool o, .slice A n c] 24))) := (Below.refl _ w).alloc (Nat.le_refl _) _
  clear h
  unfold I.tv
  by_cases h0 : n = 0
  · subst h0
    go_enter Tryz.func40, Tryz.ntmps40
    go_wp2
    go_ret
    exact ⟨I.ret_bool (by rw [HZ.out]; simp), HB.out⟩
  · have h0b : ((n : Int) == 0) = false := beq_eq_false_iff_ne.2 (by omega)
    have H0 := Lib.hid h0
    clear h0
    go_enter Tryz.func40, Tryz.ntmps40
    go_wp2
    go_ret
    exact ⟨I.ret_bool (by rw [HZ.out]; simp [H0.out]), HB.out⟩
set_option maxHeartbeats 800000 in
theorem rone_any (t : I.Tr) (v : Value) (w : World) {B : Nat} (h : I.InT w B t v) : Calls Tryz.prog 88 #[v] w fun e w' => e = .returned (.bool (one t)) ∧ Below w.heap.size w w' := by
  obtain ⟨o, A, n, c, rfl⟩ := h.form
  have HZ := Lib.hid (one_in h)
  have HB : Hid (Below w.heap.size w (w.alloc (.cells #[.bool o, .slice A n c] 24))) := (Below.refl _ w).alloc (Nat.le_refl _) _
  clear h
  unfold I.tv
  by_cases h0 : n = 0
  · subst h0
    go_enter Tryz.func88, Tryz.ntmps88
    go_wp2
    go_ret
    exact ⟨I.ret_bool (by rw [HZ.out]; simp), HB.out⟩
  · have h0b : ((n : Int) == 0) = false := beq_eq_false_iff_ne.2 (by omega)
    have H0 := Lib.hid h0
    clear h0
    go_enter Tryz.func88, Tryz.ntmps88
    go_wp2
    go_ret
    exact ⟨I.ret_bool (by rw [HZ.out]; simp [H0.out]), HB.out⟩
theorem okT_norms {n : Int} {a b : E.Tr} (h : E.okT (.node n a b) = true) : E.okT (.node n a.norm b.norm) = true := by
  rw [E.okT_iff] at h ⊢
  obtain ⟨h1, h2, h3⟩ := h
  simp only [E.Tr.okc, Bool.and_eq_true, decide_eq_true_eq] at h2 ⊢
  simp only [E.Tr.depth, E.Tr.nodes] at h1 h3 ⊢
  have := E.norm_depth a; have := E.norm_depth b; have := E.norm_nodes a; have := E.norm_nodes b
  exact ⟨by omega, ⟨h2.1, E.okc_norm h2.2.1, E.okc_norm h2.2.2⟩, by omega⟩
theorem norm_norms (n : Int) (a b : E.Tr) : (E.Tr.node n a.norm b.norm).norm = (E.Tr.node n a b).norm := by
  show E.Tr.raise n a.norm.norm b.norm.norm = E.Tr.raise n a.norm b.norm
  rw [E.norm_norm, E.norm_norm]
set_option maxRecDepth 100000 in
set_option maxHeartbeats 3200000 in
theorem rnode_any (n : Int) (x y : E.Tr) (u v : Value) (w : World) (hx : ET w x u) (hy : ET w y v) (hok : E.okT (.node n x y) = true) : Calls Tryz.prog 90 #[.int .i64 n, u, v] w (TreeI (E.Tr.node n x y).norm w) := by
  obtain ⟨A1, n1, c1, rfl⟩ := E.InP.form hx
  obtain ⟨A2, n2, c2, rfl⟩ := E.InP.form hy
  generalize hx1 : x.N = o1 at *
  generalize hy1 : y.N = o2 at *
  have HX0 := Lib.hid ((((SX.begin w).two (.int .i64 o1) (.slice A1 n1 c1) 27).two (.int .i64 o2) (.slice A2 n2 c2) 27).two (.int .i64 0) (.slice none 0 0) 27)
  simp only [List.nil_append, List.cons_append, World.size_alloc] at HX0
  obtain ⟨W3, hW3⟩ : ∃ W3, ((w.alloc (.cells #[.int .i64 o1, .slice A1 n1 c1] 27)).alloc (.cells #[.int .i64 o2, .slice A2 n2 c2] 27)).alloc (.cells #[.int .i64 0, .slice none 0 0] 27) = W3 := ⟨_, rfl⟩
  have hs3 : W3.heap.size = w.heap.size + 3 := by rw [← hW3]; simp
  rw [hW3] at HX0
  have hbw : Below w.heap.size w W3 := HX0.out.bel
  have hb4 : Below W3.heap.size W3 (W3.alloc (.cells #[.int .i64 o1, .slice A1 n1 c1, .int .i64 o2, .slice A2 n2 c2] 27)) := (Below.refl _ _).alloc (Nat.le_refl _) _
  have hin : ET (W3.alloc (.cells #[.int .i64 o1, .slice A1 n1 c1, .int .i64 o2, .slice A2 n2 c2] 27)) (.node n x y) (E.tv n (some ⟨W3.heap.size, 0, none⟩) 2 2) := by
    refine E.two_in (P := E.Lt w.heap.size) (heap_alloc_new W3 _) (hx.below (hbw.trans (hb4.mono hbw.size))) (hy.below (hbw.trans (hb4.mono hbw.size))) (fun b h => Nat.lt_of_lt_of_le h (by show _ ≤ _; have := hb4.size; omega)) ?_
    show _ < _; simp
  have hc := E.rnorm_arg (E.arg_of hin)
  rw [E.fit_of hok] at hc
  simp only [E.normR] at hc
  have HX1 := Lib.hid (HX0.out.next hb4)
  subst hW3
  simp only [World.size_alloc] at hc HX1
  clear hin hx hy hok hb4 hbw HX0 hs3
  unfold E.tv at hc ⊢
  go_enter Tryz.func90, Tryz.ntmps90
  go_wp2_with fail
  refine hc.mono ?_
  rintro e w4 ⟨v4, rfl, ht4, hb4⟩
  obtain ⟨A4, n4, c4, rfl⟩ := E.InP.form ht4
  simp only at ht4 ⊢
  have ht4' := E.InP.old ht4
  obtain ⟨z4, hz4⟩ : ∃ z4, (E.Tr.node n x y).norm.N = z4 := ⟨_, rfl⟩
  rw [hz4] at ht4' ⊢
  have HX4 := Lib.hid (((HX1.out.next (hb4.mono (by simp))).e ht4').two (.int .i64 z4) (.slice A4 n4 c4) 27)
  simp only [List.nil_append, List.cons_append] at HX4
  have sz4 : w.heap.size + 3 ≤ w4.heap.size := by have := hb4.size; simp only [World.size_alloc] at this; omega
  clear hc hb4 ht4 ht4' hz4 hx1 hy1 HX1
  unfold E.tv
  go_upto_region 2 with fail
  generalize w4.alloc (.cells #[.int .i64 z4, .slice A4 n4 c4] 27) = w5 at *
  have f := HX4.out.at0
  simp only [List.mem_cons, List.not_mem_nil, or_false, forall_eq_or_imp, forall_eq] at f
  obtain ⟨p0, p1, p2, p3, p4, p5, p6, p7⟩ := f
  obtain ⟨y0, y1, q0, q1, q2, q3⟩ := HX4.out.facts2 (w.heap.size + 1 + 1) (by simp)
  have HX9 := Lib.hid ((HX4.out.sub (bs' := []) (rs' := [(w.heap.size + 1 + 1, 2)]) (is' := []) (es' := [((E.Tr.node n x y).norm, E.tv z4 A4 n4 c4)]) (by simp) (by simp) (by simp) (by simp)).set2 (w.heap.size + 1 + 1) (.int .i64 z4) (.slice A4 n4 c4) (by simp) (by simp) (by simp))
  clear HX4
  go_wp2
  have f := HX9.out.at0
  simp only [List.mem_cons, List.not_mem_nil, or_false, forall_eq_or_imp, forall_eq] at f
  obtain ⟨f0, f1⟩ := f
  refine bodyPost_ret (v := E.tv z4 A4 n4 c4) (by simp [results, Tryz.f90, go_sem, E.tv, f0, f1]) rfl ?_
  exact ⟨_, rfl, HX9.out.eget (by simp), HX9.out.bel⟩
set_option maxRecDepth 100000 in
set_option maxHeartbeats 1600000 in
theorem rside_any (x y : E.Tr) (u v : Value) (w : World) (hx : ET w x u) (hy : ET w y v) (ox : E.okT x = true) (oy : E.okT y = true) : Calls Tryz.prog 91 #[u, v] w (TreeI (.leaf (max (E.high x) (E.low y))) w) := by
  obtain ⟨A1, n1, c1, rfl⟩ := E.InP.form hx
  obtain ⟨A2, n2, c2, rfl⟩ := E.InP.form hy
  generalize x.N = o1 at *
  generalize y.N = o2 at *
  have HX0 := Lib.hid (((((((SX.begin w).e hx).e hy).two (.int .i64 o1) (.slice A1 n1 c1) 27).two (.int .i64 o2) (.slice A2 n2 c2) 27).two (.int .i64 0) (.slice none 0 0) 27))
  simp only [List.nil_append, List.cons_append, World.size_alloc] at HX0
  have hc := E.rends_arg (E.arg_of (HX0.out.eget (t := x) (v := E.tv o1 A1 n1 c1) (by simp)))
  rw [E.fit_of ox] at hc
  simp only [E.endsR] at hc
  have OY := Lib.hid oy
  clear hx hy ox oy
  unfold E.tv at hc ⊢
  go_enter Tryz.func91, Tryz.ntmps91
  go_wp2_with fail
  refine hc.mono ?_
  rintro e w1 ⟨rfl, hb1⟩
  have HX1 := Lib.hid (HX0.out.next hb1)
  clear hc hb1 HX0
  have f := HX1.out.at0
  simp only [List.mem_cons, List.not_mem_nil, or_false, forall_eq_or_imp, forall_eq] at f
  obtain ⟨p0, p1, p2, p3, p4, p5⟩ := f
  have hc := E.rends_arg (E.arg_of (HX1.out.eget (t := y) (v := E.tv o2 A2 n2 c2) (by simp)))
  rw [E.fit_of OY.out] at hc
  simp only [E.endsR] at hc
  unfold E.tv at hc
  go_wp2_with fail
  refine hc.mono ?_
  rintro e w2 ⟨rfl, hb2⟩
  have HX2 := Lib.hid (HX1.out.next hb2)
  clear hc hb2 HX1 p0 p1 p2 p3 p4 p5
  obtain ⟨y0, y1, q0, q1, q2, q3⟩ := HX2.out.facts2 (w.heap.size + 1 + 1) (by simp)
  have HX3 := Lib.hid ((HX2.out.sub0 (bs' := []) (rs' := [(w.heap.size + 1 + 1, 2)]) (by simp) (by simp)).set2 (w.heap.size + 1 + 1) (.int .i64 (max (E.high x) (E.low y))) (.slice none 0 0) (by simp) (by simp) (by simp))
  clear HX2
  go_wp2
  have f := HX3.out.at0
  simp only [List.mem_cons, List.not_mem_nil, or_false, forall_eq_or_imp, forall_eq] at f
  obtain ⟨f0, f1⟩ := f
  refine bodyPost_ret (v := E.tv (max (E.high x) (E.low y)) none 0 0) (by simp [results, Tryz.f91, go_sem, E.tv, f0, f1]) rfl ?_
  exact ⟨_, rfl, ⟨none, 0, rfl⟩, HX3.out.bel⟩
end Go.Proofs.YtoaglkjpjolacaaGreatDoor.S
namespace Go.Proofs.YtoaglkjpjolacaaGreatDoor.S
open Go.RowKit
def RF (i : I.Tr) : Prop := ∀ (e : E.Tr) (u v : Value) (w : World), IT w i u → ET w e v → E.Nf e → E.okT e = true → Calls Tryz.prog 41 #[u, v] w (TreeI (fillT i e).norm w)
set_option maxRecDepth 100000 in
set_option maxHeartbeats 6400000 in
theorem rfill_zero {e : E.Tr} {Ai : Option Addr} {ci : Nat} {z : Int} {B : Option Addr} {m d : Nat} (w : World) (he : ET w e (E.tv z B m d)) (hn : E.Nf e) : Calls Tryz.prog 41 #[I.tv false Ai 0 ci, E.tv z B m d] w (TreeI (fillT (.leaf false) e).norm w) := by
  have HI : Hid (IT w (.leaf false) (I.tv false Ai 0 ci)) := ⟨Ai, ci, rfl⟩
  have HE := Lib.hid he
  have HN : Hid ((fillT (.leaf false) e).norm = e) := E.norm_nf hn
  clear he hn
  have HX0 := Lib.hid ((((SX.begin w).two (.bool false) (.slice Ai 0 ci) 24).two (.int .i64 z) (.slice B m d) 27).two (.int .i64 0) (.slice none 0 0) 27)
  simp only [List.nil_append, List.cons_append, World.size_alloc] at HX0
  have hc := rnone_any (.leaf false) (I.tv false Ai 0 ci) _ (HI.out.up HX0.out.bel)
  rw [show zero (.leaf false) = true from rfl] at hc
  unfold I.tv at hc ⊢
  unfold E.tv
  go_enter Tryz.func41, Tryz.ntmps41
  go_wp2_with fail
  refine hc.mono ?_
  rintro e w1 ⟨rfl, hb1⟩
  have HX1 := Lib.hid (HX0.out.next hb1)
  clear hc hb1 HX0
  have f := HX1.out.at0
  simp only [List.mem_cons, List.not_mem_nil, or_false, forall_eq_or_imp, forall_eq] at f
  obtain ⟨p0, p1, p2, p3, p4, p5⟩ := f
  have HX2 := Lib.hid (HX1.out.e (E.InP.up HE.out HX1.out.bel))
  clear HX1
  obtain ⟨y0, y1, q0, q1, q2, q3⟩ := HX2.out.facts2 (w.heap.size + 1 + 1) (by simp)
  have HX9 := Lib.hid ((HX2.out.sub (bs' := []) (rs' := [(w.heap.size + 1 + 1, 2)]) (is' := []) (es' := [(e, E.tv z B m d)]) (by simp) (by simp) (by simp) (by simp)).set2 (w.heap.size + 1 + 1) (.int .i64 z) (.slice B m d) (by simp) (by simp) (by simp))
  clear HX2
  go_wp2
  have f := HX9.out.at0
  simp only [List.mem_cons, List.not_mem_nil, or_false, forall_eq_or_imp, forall_eq] at f
  obtain ⟨f0, f1⟩ := f
  refine bodyPost_ret (v := E.tv z B m d) (by simp [results, Tryz.f41, go_sem, E.tv, f0, f1]) rfl ?_
  rw [HN.out]
  exact ⟨_, rfl, HX9.out.eget (by simp), HX9.out.bel⟩
set_option maxRecDepth 100000 in
set_option maxHeartbeats 6400000 in
theorem rfill_one {ev : E.Tr} {Ai : Option Addr} {ci : Nat} {z : Int} {B : Option Addr} {m d : Nat} (w : World) (he : ET w ev (E.tv z B m d)) (ho : E.okT ev = true) : Calls Tryz.prog 41 #[I.tv true Ai 0 ci, E.tv z B m d] w (TreeI (fillT (.leaf true) ev).norm w) := by
  have HI : Hid (IT w (.leaf true) (I.tv true Ai 0 ci)) := ⟨Ai, ci, rfl⟩
  have HE := Lib.hid he
  have HO := Lib.hid ho
  clear he ho
  have HX0 := Lib.hid ((((SX.begin w).two (.bool true) (.slice Ai 0 ci) 24).two (.int .i64 z) (.slice B m d) 27).two (.int .i64 0) (.slice none 0 0) 27)
  simp only [List.nil_append, List.cons_append, World.size_alloc] at HX0
  have hc := rnone_any (.leaf true) (I.tv true Ai 0 ci) _ (HI.out.up HX0.out.bel)
  rw [show zero (.leaf true) = false from rfl] at hc
  unfold I.tv at hc ⊢
  unfold E.tv
  go_enter Tryz.func41, Tryz.ntmps41
  go_wp2_with fail
  refine hc.mono ?_
  rintro e w1 ⟨rfl, hb1⟩
  have HX1 := Lib.hid (HX0.out.next hb1)
  clear hc hb1 HX0
  have f := HX1.out.at0
  simp only [List.mem_cons, List.not_mem_nil, or_false, forall_eq_or_imp, forall_eq] at f
  obtain ⟨p0, p1, p2, p3, p4, p5⟩ := f
  have hc := rone_any (.leaf true) (I.tv true Ai 0 ci) _ (HI.out.up HX1.out.bel)
  rw [show one (.leaf true) = true from rfl] at hc
  unfold I.tv at hc
  go_wp2_with fail
  refine hc.mono ?_
  rintro e w2 ⟨rfl, hb2⟩
  have HX2 := Lib.hid (HX1.out.next hb2)
  clear hc hb2 HX1 p0 p1 p2 p3 p4 p5
  have f := HX2.out.at0
  simp only [List.mem_cons, List.not_mem_nil, or_false, forall_eq_or_imp, forall_eq] at f
  obtain ⟨p0, p1, p2, p3, p4, p5⟩ := f
  have hc := E.rends_arg (E.arg_of (E.InP.up HE.out HX2.out.bel))
  rw [E.fit_of HO.out] at hc
  simp only [E.endsR] at hc
  unfold E.tv at hc
  go_wp2_with fail
  refine hc.mono ?_
  rintro e w3 ⟨rfl, hb3⟩
  have HX3 := Lib.hid (HX2.out.next hb3)
  clear hc hb3 HX2 p0 p1 p2 p3 p4 p5
  obtain ⟨y0, y1, q0, q1, q2, q3⟩ := HX3.out.facts2 (w.heap.size + 1 + 1) (by simp)
  have HX9 := Lib.hid ((HX3.out.sub (bs' := []) (rs' := [(w.heap.size + 1 + 1, 2)]) (is' := []) (es' := []) (by simp) (by simp) (by simp) (by simp)).set2 (w.heap.size + 1 + 1) (.int .i64 (E.high ev)) (.slice none 0 0) (by simp) (by simp) (by simp))
  clear HX3
  go_wp2
  have f := HX9.out.at0
  simp only [List.mem_cons, List.not_mem_nil, or_false, forall_eq_or_imp, forall_eq] at f
  obtain ⟨f0, f1⟩ := f
  refine bodyPost_ret (v := E.tv (E.high ev) none 0 0) (by simp [results, Tryz.f41, go_sem, E.tv, f0, f1]) rfl ?_
  exact ⟨_, rfl, ⟨none, 0, rfl⟩, HX9.out.bel⟩
set_option maxRecDepth 100000 in
set_option maxHeartbeats 6400000 in
theorem rfill_nleaf {l r : I.Tr} {Ai : Option Addr} {ci : Nat} {z : Int} {B : Option Addr} {d : Nat} (w : World) (hi : IT w (.node l r) (I.tv false Ai 2 ci)) : Calls Tryz.prog 41 #[I.tv false Ai 2 ci, E.tv z B 0 d] w (TreeI (.leaf z) w) := by
  have HI := Lib.hid hi
  clear hi
  have HX0 := Lib.hid ((((SX.begin w).two (.bool false) (.slice Ai 2 ci) 24).two (.int .i64 z) (.slice B 0 d) 27).two (.int .i64 0) (.slice none 0 0) 27)
  simp only [List.nil_append, List.cons_append, World.size_alloc] at HX0
  have hc := rnone_any (.node l r) (I.tv false Ai 2 ci) _ (HI.out.up HX0.out.bel)
  rw [show zero (.node l r) = false from rfl] at hc
  unfold I.tv at hc ⊢
  unfold E.tv
  go_enter Tryz.func41, Tryz.ntmps41
  go_wp2_with fail
  refine hc.mono ?_
  rintro e w1 ⟨rfl, hb1⟩
  have HX1 := Lib.hid (HX0.out.next hb1)
  clear hc hb1 HX0
  have f := HX1.out.at0
  simp only [List.mem_cons, List.not_mem_nil, or_false, forall_eq_or_imp, forall_eq] at f
  obtain ⟨p0, p1, p2, p3, p4, p5⟩ := f
  have hc := rone_any (.node l r) (I.tv false Ai 2 ci) _ (HI.out.up HX1.out.bel)
  rw [show one (.node l r) = false from rfl] at hc
  unfold I.tv at hc
  go_wp2_with fail
  refine hc.mono ?_
  rintro e w2 ⟨rfl, hb2⟩
  have HX2 := Lib.hid (HX1.out.next hb2)
  clear hc hb2 HX1 p0 p1 p2 p3 p4 p5
  have f := HX2.out.at0
  simp only [List.mem_cons, List.not_mem_nil, or_false, forall_eq_or_imp, forall_eq] at f
  obtain ⟨p0, p1, p2, p3, p4, p5⟩ := f
  obtain ⟨y0, y1, q0, q1, q2, q3⟩ := HX2.out.facts2 (w.heap.size + 1 + 1) (by simp)
  have HX9 := Lib.hid ((HX2.out.sub (bs' := []) (rs' := [(w.heap.size + 1 + 1, 2)]) (is' := []) (es' := []) (by simp) (by simp) (by simp) (by simp)).set2 (w.heap.size + 1 + 1) (.int .i64 z) (.slice B 0 d) (by simp) (by simp) (by simp))
  clear HX2
  go_wp2
  have f := HX9.out.at0
  simp only [List.mem_cons, List.not_mem_nil, or_false, forall_eq_or_imp, forall_eq] at f
  obtain ⟨f0, f1⟩ := f
  refine bodyPost_ret (v := E.tv z B 0 d) (by simp [results, Tryz.f41, go_sem, E.tv, f0, f1]) rfl ?_
  skip
  exact ⟨_, rfl, ⟨B, d, rfl⟩, HX9.out.bel⟩
set_option maxRecDepth 100000 in
set_option maxHeartbeats 6400000 in
theorem rfill_node {l r : I.Tr} {x y : E.Tr} {bi oi ci b off c : Nat} {z oa ob : Int} {ol or' : Bool} {Al Ar Aa Ab : Option Addr} {nl cl nr cr na ca nb cb : Nat} (w : World) (ihl : RF l) (ihr : RF r)
    (hi : IT w (.node l r) (I.tv false (some ⟨bi, oi, none⟩) 2 ci))
    (i2 : w.cell? ⟨bi, oi, none⟩ = some (.bool ol)) (i3 : w.cell? ⟨bi, oi + 1, none⟩ = some (.slice Al nl cl)) (i4 : w.cell? ⟨bi, oi + 2, none⟩ = some (.bool or')) (i5 : w.cell? ⟨bi, oi + 3, none⟩ = some (.slice Ar nr cr))
    (il : IT w l (I.tv ol Al nl cl)) (ir : IT w r (I.tv or' Ar nr cr))
    (e0 : w.cell? ⟨b, off, none⟩ = some (.int .i64 oa)) (e1 : w.cell? ⟨b, off + 1, none⟩ = some (.slice Aa na ca)) (e2 : w.cell? ⟨b, off + 2, none⟩ = some (.int .i64 ob)) (e3 : w.cell? ⟨b, off + 3, none⟩ = some (.slice Ab nb cb))
    (ex : ET w x (E.tv oa Aa na ca)) (ey : ET w y (E.tv ob Ab nb cb)) (hn : E.Nf (.node z x y)) (ok : E.okT (.node z x y) = true) : Calls Tryz.prog 41 #[I.tv false (some ⟨bi, oi, none⟩) 2 ci, E.tv z (some ⟨b, off, none⟩) 2 c] w (TreeI (fillT (.node l r) (.node z x y)).norm w) := by
  have li : bi < w.heap.size := World.block_lt_of_cell? w _ i2
  have lb : b < w.heap.size := World.block_lt_of_cell? w _ e0
  have HO : Hid (∀ W, Below w.heap.size w W → W.cell? ⟨bi, oi, none⟩ = some (.bool ol) ∧ W.cell? ⟨bi, oi + 1, none⟩ = some (.slice Al nl cl) ∧ W.cell? ⟨bi, oi + 2, none⟩ = some (.bool or') ∧ W.cell? ⟨bi, oi + 3, none⟩ = some (.slice Ar nr cr) ∧ W.cell? ⟨b, off, none⟩ = some (.int .i64 oa) ∧ W.cell? ⟨b, off + 1, none⟩ = some (.slice Aa na ca) ∧ W.cell? ⟨b, off + 2, none⟩ = some (.int .i64 ob) ∧ W.cell? ⟨b, off + 3, none⟩ = some (.slice Ab nb cb)) :=
    fun W hb => ⟨(hb.cell li).trans i2, (hb.cell li).trans i3, (hb.cell li).trans i4, (hb.cell li).trans i5, (hb.cell lb).trans e0, (hb.cell lb).trans e1, (hb.cell lb).trans e2, (hb.cell lb).trans e3⟩
  obtain ⟨okx, oky, _, _⟩ := ok_kids ok
  have HI := Lib.hid hi
  have IL := Lib.hid il
  have IR := Lib.hid ir
  have EX := Lib.hid ex
  have EY := Lib.hid ey
  have IHL := Lib.hid ihl
  have IHR := Lib.hid ihr
  have OKX := Lib.hid okx
  have OKY := Lib.hid oky
  have NX := Lib.hid hn.1
  have NY := Lib.hid hn.2.1
  have HOK : Hid (E.okT (fillT (.node l r) (.node z x y)) = true) := fill_ok _ ok
  clear hi i2 i3 i4 i5 il ir e0 e1 e2 e3 ex ey ihl ihr okx oky hn ok li lb
  have HX0 := Lib.hid ((((SX.begin w).two (.bool false) (.slice (some ⟨bi, oi, none⟩) 2 ci) 24).two (.int .i64 z) (.slice (some ⟨b, off, none⟩) 2 c) 27).two (.int .i64 0) (.slice none 0 0) 27)
  simp only [List.nil_append, List.cons_append, World.size_alloc] at HX0
  have hc := rnone_any (.node l r) (I.tv false (some ⟨bi, oi, none⟩) 2 ci) _ (HI.out.up HX0.out.bel)
  rw [show zero (.node l r) = false from rfl] at hc
  unfold I.tv at hc ⊢
  unfold E.tv
  go_enter Tryz.func41, Tryz.ntmps41
  go_wp2_with fail
  refine hc.mono ?_
  rintro e w1 ⟨rfl, hb1⟩
  have HX1 := Lib.hid (HX0.out.next hb1)
  clear hc hb1 HX0
  have f := HX1.out.at0
  simp only [List.mem_cons, List.not_mem_nil, or_false, forall_eq_or_imp, forall_eq] at f
  obtain ⟨p0, p1, p2, p3, p4, p5⟩ := f
  have hc := rone_any (.node l r) (I.tv false (some ⟨bi, oi, none⟩) 2 ci) _ (HI.out.up HX1.out.bel)
  rw [show one (.node l r) = false from rfl] at hc
  unfold I.tv at hc
  go_wp2_with fail
  refine hc.mono ?_
  rintro e w2 ⟨rfl, hb2⟩
  have HX2 := Lib.hid (HX1.out.next hb2)
  clear hc hb2 HX1 p0 p1 p2 p3 p4 p5
  have f := HX2.out.at0
  simp only [List.mem_cons, List.not_mem_nil, or_false, forall_eq_or_imp, forall_eq] at f
  obtain ⟨p0, p1, p2, p3, p4, p5⟩ := f
  obtain ⟨a0, a1, a2, a3, a4, a5, a6, a7⟩ := HO.out w2 HX2.out.bel
  have hc := rone_any l (I.tv ol Al nl cl) w2 (IL.out.up HX2.out.bel)
  unfold I.tv at hc
  obtain ⟨lb, hlb⟩ : ∃ q, one l = q := ⟨_, rfl⟩
  rw [hlb] at hc
  go_wp2_with fail
  refine hc.mono ?_
  rintro e w3 ⟨rfl, hb3⟩
  have HX3 := Lib.hid (HX2.out.next hb3)
  have s3 : w.heap.size + 3 ≤ w3.heap.size := by
    have h1 := hb3.size
    have h2 := (HX2.out.box (w.heap.size + 1 + 1, 2) (by simp)).1.lt
    omega
  clear hc hb3 HX2 a0 a1 a2 a3 a4 a5 a6 a7 p0 p1 p2 p3 p4 p5
  cases lb with
  | true =>
    have HRE : Hid ((fillT (.node l r) (.node z x y)).norm = (E.Tr.node z (.leaf (max (E.high x) (E.low (fillT r y).norm))) (fillT r y).norm).norm) := Lib.hid (by rw [fill_l hlb, E.low_norm]; exact (norm_norms z _ _).symm)
    have HNK : Hid (E.okT (.node z (.leaf (max (E.high x) (E.low (fillT r y).norm))) (fillT r y).norm) = true) := Lib.hid (by have := HOK.out; rw [fill_l hlb] at this; rw [E.low_norm]; exact okT_norms this)
    go_upto_region 9 with fail
    go_cut [8] (fun s8 wx => ∃ (g8 : Nat) (z8 : Int) (A8 : Option Addr) (n8 c8 : Nat), s8 = .pointer (some ⟨g8, 0, none⟩) ∧ w.heap.size + 3 ≤ g8 ∧ SX w [(w.heap.size, 0, .bool false), (w.heap.size, 1, .slice (some ⟨bi, oi, none⟩) 2 ci), (w.heap.size + 1, 0, .int .i64 z), (w.heap.size + 1, 1, .slice (some ⟨b, off, none⟩) 2 c), (g8, 0, .int .i64 z8), (g8, 1, .slice A8 n8 c8)] [(w.heap.size + 1 + 1, 2)] [] [((fillT r y).norm, E.tv z8 A8 n8 c8)] wx)
    case first =>
      refine wp_region_held_drew (S := fun W => SX w [(w.heap.size, 0, .bool false), (w.heap.size, 1, .slice (some ⟨bi, oi, none⟩) 2 ci), (w.heap.size + 1, 0, .int .i64 z), (w.heap.size + 1, 1, .slice (some ⟨b, off, none⟩) 2 c)] [(w.heap.size + 1 + 1, 2)] [] [] W) (by kernel_rfl) ((HX3.out.drew).sub0 (by simp) (by simp)) (fun hS => ?_)
      have HXd := Lib.hid ((HX3.out.drew).sub0 (bs' := [(w.heap.size, 0, .bool false), (w.heap.size, 1, .slice (some ⟨bi, oi, none⟩) 2 ci), (w.heap.size + 1, 0, .int .i64 z), (w.heap.size + 1, 1, .slice (some ⟨b, off, none⟩) 2 c)]) (rs' := [(w.heap.size + 1 + 1, 2)]) (by simp) (by simp))
      have sd : w.heap.size + 3 ≤ w3.drew.heap.size := by simpa using s3
      clear HX3
      generalize w3.drew = wd at *
      refine wpAnyH_take (i := 0) (v := ?_) rfl (by kernel_rfl) (by kernel_rfl) (by kernel_rfl) (fun _ _ _ h => h) (Yields.yieldsIf (Or.inl ⟨by kernel_rfl, ?_⟩)) hS ?_
      rotate_left
      · first | (intro w; go_simp; done) | (intro w; go_simp; with_reducible rfl)
      refine wpAnyH_take (i := 1) (v := ?_) rfl (by kernel_rfl) (by kernel_rfl) (by kernel_rfl) (fun _ _ _ h => h) (Or.inl ⟨by kernel_rfl, fun W hW => ?_⟩) hS ?_
      rotate_left
      · obtain ⟨a0, a1, a2, a3, a4, a5, a6, a7⟩ := HO.out W hW.bel
        have f := hW.at0
        simp only [List.mem_cons, List.not_mem_nil, or_false, forall_eq_or_imp, forall_eq] at f
        obtain ⟨p0, p1, p2, p3⟩ := f
        first | (go_simp; done) | (go_simp; with_reducible rfl)
      refine wpAnyH_take (i := 2) (v := ?_) rfl (by kernel_rfl) (by kernel_rfl) (by kernel_rfl) (fun _ _ _ h => h) (Yields.yieldsIf (Or.inl ⟨by kernel_rfl, ?_⟩)) hS ?_
      rotate_left
      · first | (intro w; go_simp; done) | (intro w; go_simp; with_reducible rfl)
      refine wpAnyH_take (i := 3) (v := ?_) rfl (by kernel_rfl) (by kernel_rfl) (by kernel_rfl) (fun _ _ _ h => h) (Or.inl ⟨by kernel_rfl, fun W hW => ?_⟩) hS ?_
      rotate_left
      · obtain ⟨a0, a1, a2, a3, a4, a5, a6, a7⟩ := HO.out W hW.bel
        have f := hW.at0
        simp only [List.mem_cons, List.not_mem_nil, or_false, forall_eq_or_imp, forall_eq] at f
        obtain ⟨p0, p1, p2, p3⟩ := f
        first | (go_simp; done) | (go_simp; with_reducible rfl)
      refine wpAnyH_take (i := 4) (v := ?_) rfl (by kernel_rfl) (by kernel_rfl) (by kernel_rfl) (fun _ _ _ h => h) (Yields.yieldsIf (Or.inl ⟨by kernel_rfl, ?_⟩)) hS ?_
      rotate_left
      · first | (intro w; go_simp; done) | (intro w; go_simp; with_reducible rfl)
      refine wpAnyH_take (i := 5) (v := ?_) rfl (by kernel_rfl) (by kernel_rfl) (by kernel_rfl) (fun _ _ _ h => h) (Or.inl ⟨by kernel_rfl, fun W hW => ?_⟩) hS ?_
      rotate_left
      · obtain ⟨a0, a1, a2, a3, a4, a5, a6, a7⟩ := HO.out W hW.bel
        have f := hW.at0
        simp only [List.mem_cons, List.not_mem_nil, or_false, forall_eq_or_imp, forall_eq] at f
        obtain ⟨p0, p1, p2, p3⟩ := f
        first | (go_simp; done) | (go_simp; with_reducible rfl)
      refine wpAnyH_take (i := 6) (v := ?_) rfl (by kernel_rfl) (by kernel_rfl) (by kernel_rfl) (fun _ _ _ h => h) (Yields.yieldsIf (Or.inl ⟨by kernel_rfl, ?_⟩)) hS ?_
      rotate_left
      · first | (intro w; go_simp; done) | (intro w; go_simp; with_reducible rfl)
      refine wpAnyH_take (i := 7) (v := ?_) rfl (by kernel_rfl) (by kernel_rfl) (by kernel_rfl) (fun _ _ _ h => h) (Or.inl ⟨by kernel_rfl, fun W hW => ?_⟩) hS ?_
      rotate_left
      · obtain ⟨a0, a1, a2, a3, a4, a5, a6, a7⟩ := HO.out W hW.bel
        have f := hW.at0
        simp only [List.mem_cons, List.not_mem_nil, or_false, forall_eq_or_imp, forall_eq] at f
        obtain ⟨p0, p1, p2, p3⟩ := f
        first | (go_simp; done) | (go_simp; with_reducible rfl)
      refine wpAnyH_ready (rs := [8, 9]) (by kernel_rfl) (by simp) ?_
      refine AllReadyH.cons rfl (fun K hK => ?_) (AllReadyH.cons rfl (fun K hK => ?_) AllReadyH.nil)
      · have hcall := IHR.out y (I.tv or' Ar nr cr) (E.tv ob Ab nb cb) wd (IR.out.up HXd.out.bel) (E.InP.up EY.out HXd.out.bel) NY.out OKY.out
        unfold I.tv E.tv at hcall
        go_simp
        go_wp2_with fail
        refine hcall.mono ?_
        rintro e wdx ⟨v8, rfl, ht8, hbx⟩
        obtain ⟨A8, n8, c8, rfl⟩ := E.InP.form ht8
        obtain ⟨z8, hz8⟩ : ∃ z8, (fillT r y).norm.N = z8 := ⟨_, rfl⟩
        rw [hz8] at ht8 ⊢
        clear hz8
        have HXdx := Lib.hid ((HXd.out.next hbx).e ht8)
        have szwdx : wd.heap.size ≤ wdx.heap.size := hbx.size
        clear hcall ht8 hbx HXd
        unfold E.tv
        refine hK.out _ _ (HXdx.out.sub0 (by simp) (by simp)) (fun hS => ?_)
        clear hK K
        refine wpAnyH_ready (rs := [9]) (by kernel_rfl) (by simp) ?_
        refine AllReadyH.cons rfl (fun K hK => ?_) AllReadyH.nil
        go_simp
        go_wp2
        have HXdxx' := HXdx.out.two (.int .i64 0) (.slice none 0 0) 27
        have HXdxx := Lib.hid HXdxx'
        clear HXdxx' HXdx
        simp only [List.nil_append, List.cons_append] at HXdxx
        refine hK.out _ _ (HXdxx.out.sub0 (by simp) (by simp)) (fun hS => ?_)
        clear hK K
        have szwdxx : wdx.heap.size < (wdx.alloc (.cells #[.int .i64 0, .slice none 0 0] 27)).heap.size := by simp
        generalize wdx.alloc (.cells #[.int .i64 0, .slice none 0 0] 27) = wdxx at *
        refine wpAnyH_ready (rs := [10]) (by kernel_rfl) (by simp) ?_
        refine AllReadyH.cons rfl (fun K hK => ?_) AllReadyH.nil
        obtain ⟨y0, y1, q0, q1, q2, q3⟩ := HXdxx.out.facts2 (wdx.heap.size) (by simp)
        go_simp
        go_wp2
        have HXdxxx := Lib.hid ((HXdxx.out.sub (bs' := [(w.heap.size, 0, .bool false), (w.heap.size, 1, .slice (some ⟨bi, oi, none⟩) 2 ci), (w.heap.size + 1, 0, .int .i64 z), (w.heap.size + 1, 1, .slice (some ⟨b, off, none⟩) 2 c)]) (rs' := [(w.heap.size + 1 + 1, 2), (wdx.heap.size, 2)]) (is' := []) (es' := [((fillT r y).norm, E.tv z8 A8 n8 c8)]) (by simp) (by simp) (by simp) (by simp)).set2 (wdx.heap.size) (.int .i64 z8) (.slice A8 n8 c8) (by simp) (by simp only [List.mem_cons, List.not_mem_nil, or_false, forall_eq_or_imp, forall_eq]; omega) (by simp))
        clear q0 q1 q2 q3 HXdxx
        refine hK.out _ _ (HXdxxx.out.sub0 (by simp) (by simp)) (fun hS => ?_)
        clear hK K
        generalize (wdxx.setCell ⟨wdx.heap.size, 0, none⟩ (.int .i64 z8)).setCell ⟨wdx.heap.size, 1, none⟩ (.slice A8 n8 c8) = wdxxx at *
        try go_simp
        refine wpAnyH_done (by kernel_rfl) ?_ _
        go_wp2_with fail
        go_meet
        exact ⟨wdx.heap.size, z8, A8, n8, c8, rfl, by omega, HXdxxx.out.sub (by simp) (by simp) (by simp) (by simp)⟩
      · go_simp
        go_wp2
        have HXdx' := HXd.out.two (.int .i64 0) (.slice none 0 0) 27
        have HXdx := Lib.hid HXdx'
        clear HXdx' HXd
        simp only [List.nil_append, List.cons_append] at HXdx
        refine hK.out _ _ (HXdx.out.sub0 (by simp) (by simp)) (fun hS => ?_)
        clear hK K
        have szwdx : wd.heap.size < (wd.alloc (.cells #[.int .i64 0, .slice none 0 0] 27)).heap.size := by simp
        generalize wd.alloc (.cells #[.int .i64 0, .slice none 0 0] 27) = wdx at *
        refine wpAnyH_ready (rs := [8]) (by kernel_rfl) (by simp) ?_
        refine AllReadyH.cons rfl (fun K hK => ?_) AllReadyH.nil
        have hcall := IHR.out y (I.tv or' Ar nr cr) (E.tv ob Ab nb cb) wdx (IR.out.up HXdx.out.bel) (E.InP.up EY.out HXdx.out.bel) NY.out OKY.out
        unfold I.tv E.tv at hcall
        go_simp
        go_wp2_with fail
        refine hcall.mono ?_
        rintro e wdxx ⟨v8, rfl, ht8, hbx⟩
        obtain ⟨A8, n8, c8, rfl⟩ := E.InP.form ht8
        obtain ⟨z8, hz8⟩ : ∃ z8, (fillT r y).norm.N = z8 := ⟨_, rfl⟩
        rw [hz8] at ht8 ⊢
        clear hz8
        have HXdxx := Lib.hid ((HXdx.out.next hbx).e ht8)
        have szwdxx : wdx.heap.size ≤ wdxx.heap.size := hbx.size
        clear hcall ht8 hbx HXdx
        unfold E.tv
        refine hK.out _ _ (HXdxx.out.sub0 (by simp) (by simp)) (fun hS => ?_)
        clear hK K
        refine wpAnyH_ready (rs := [10]) (by kernel_rfl) (by simp) ?_
        refine AllReadyH.cons rfl (fun K hK => ?_) AllReadyH.nil
        obtain ⟨y0, y1, q0, q1, q2, q3⟩ := HXdxx.out.facts2 (wd.heap.size) (by simp)
        go_simp
        go_wp2
        have HXdxxx := Lib.hid ((HXdxx.out.sub (bs' := [(w.heap.size, 0, .bool false), (w.heap.size, 1, .slice (some ⟨bi, oi, none⟩) 2 ci), (w.heap.size + 1, 0, .int .i64 z), (w.heap.size + 1, 1, .slice (some ⟨b, off, none⟩) 2 c)]) (rs' := [(w.heap.size + 1 + 1, 2), (wd.heap.size, 2)]) (is' := []) (es' := [((fillT r y).norm, E.tv z8 A8 n8 c8)]) (by simp) (by simp) (by simp) (by simp)).set2 (wd.heap.size) (.int .i64 z8) (.slice A8 n8 c8) (by simp) (by simp only [List.mem_cons, List.not_mem_nil, or_false, forall_eq_or_imp, forall_eq]; omega) (by simp))
        clear q0 q1 q2 q3 HXdxx
        refine hK.out _ _ (HXdxxx.out.sub0 (by simp) (by simp)) (fun hS => ?_)
        clear hK K
        generalize (wdxx.setCell ⟨wd.heap.size, 0, none⟩ (.int .i64 z8)).setCell ⟨wd.heap.size, 1, none⟩ (.slice A8 n8 c8) = wdxxx at *
        try go_simp
        refine wpAnyH_done (by kernel_rfl) ?_ _
        go_wp2_with fail
        go_meet
        exact ⟨wd.heap.size, z8, A8, n8, c8, rfl, by omega, HXdxxx.out.sub (by simp) (by simp) (by simp) (by simp)⟩
    case rest =>
    obtain ⟨g8, z8, A8, n8, c8, rfl, n8', hX⟩ := hcut
    have HXR := Lib.hid hX
    clear hX HX3
    go_upto_region 10 with fail
    refine wp_region_held_drew (S := fun W => SX w [(w.heap.size, 0, .bool false), (w.heap.size, 1, .slice (some ⟨bi, oi, none⟩) 2 ci), (w.heap.size + 1, 0, .int .i64 z), (w.heap.size + 1, 1, .slice (some ⟨b, off, none⟩) 2 c), (g8, 0, .int .i64 z8), (g8, 1, .slice A8 n8 c8)] [(w.heap.size + 1 + 1, 2)] [] [((fillT r y).norm, E.tv z8 A8 n8 c8)] W) (by kernel_rfl) ((HXR.out.drew).sub (by simp) (by simp) (by simp) (by simp)) (fun hS => ?_)
    have HXd := Lib.hid (HXR.out.drew)
    clear HXR
    generalize wc.drew = wd at *
    refine wpAnyH_take (i := 0) (v := ?_) rfl (by kernel_rfl) (by kernel_rfl) (by kernel_rfl) (fun _ _ _ h => h) (Yields.yieldsIf (Or.inl ⟨by kernel_rfl, ?_⟩)) hS ?_
    rotate_left
    · first | (intro w; go_simp; done) | (intro w; go_simp; with_reducible rfl)
    refine wpAnyH_take (i := 1) (v := ?_) rfl (by kernel_rfl) (by kernel_rfl) (by kernel_rfl) (fun _ _ _ h => h) (Or.inl ⟨by kernel_rfl, fun W hW => ?_⟩) hS ?_
    rotate_left
    · obtain ⟨a0, a1, a2, a3, a4, a5, a6, a7⟩ := HO.out W hW.bel
      have f := hW.at0
      simp only [List.mem_cons, List.not_mem_nil, or_false, forall_eq_or_imp, forall_eq] at f
      obtain ⟨p0, p1, p2, p3, p4, p5⟩ := f
      first | (go_simp; done) | (go_simp; with_reducible rfl)
    refine wpAnyH_take (i := 2) (v := ?_) rfl (by kernel_rfl) (by kernel_rfl) (by kernel_rfl) (fun _ _ _ h => h) (Yields.yieldsIf (Or.inl ⟨by kernel_rfl, ?_⟩)) hS ?_
    rotate_left
    · first | (intro w; go_simp; done) | (intro w; go_simp; with_reducible rfl)
    refine wpAnyH_take (i := 3) (v := ?_) rfl (by kernel_rfl) (by kernel_rfl) (by kernel_rfl) (fun _ _ _ h => h) (Or.inl ⟨by kernel_rfl, fun W hW => ?_⟩) hS ?_
    rotate_left
    · obtain ⟨a0, a1, a2, a3, a4, a5, a6, a7⟩ := HO.out W hW.bel
      have f := hW.at0
      simp only [List.mem_cons, List.not_mem_nil, or_false, forall_eq_or_imp, forall_eq] at f
      obtain ⟨p0, p1, p2, p3, p4, p5⟩ := f
      first | (go_simp; done) | (go_simp; with_reducible rfl)
    refine wpAnyH_take (i := 4) (v := ?_) rfl (by kernel_rfl) (by kernel_rfl) (by kernel_rfl) (fun _ _ _ h => h) (Yields.yieldsIf (Or.inl ⟨by kernel_rfl, ?_⟩)) hS ?_
    rotate_left
    · first | (intro w; go_simp; done) | (intro w; go_simp; with_reducible rfl)
    refine wpAnyH_take (i := 5) (v := ?_) rfl (by kernel_rfl) (by kernel_rfl) (by kernel_rfl) (fun _ _ _ h => h) (Or.inl ⟨by kernel_rfl, fun W hW => ?_⟩) hS ?_
    rotate_left
    · obtain ⟨a0, a1, a2, a3, a4, a5, a6, a7⟩ := HO.out W hW.bel
      have f := hW.at0
      simp only [List.mem_cons, List.not_mem_nil, or_false, forall_eq_or_imp, forall_eq] at f
      obtain ⟨p0, p1, p2, p3, p4, p5⟩ := f
      first | (go_simp; done) | (go_simp; with_reducible rfl)
    refine wpAnyH_take (i := 6) (v := ?_) rfl (by kernel_rfl) (by kernel_rfl) (by kernel_rfl) (fun _ _ _ h => h) (Or.inl ⟨by kernel_rfl, fun W hW => ?_⟩) hS ?_
    rotate_left
    · obtain ⟨a0, a1, a2, a3, a4, a5, a6, a7⟩ := HO.out W hW.bel
      have f := hW.at0
      simp only [List.mem_cons, List.not_mem_nil, or_false, forall_eq_or_imp, forall_eq] at f
      obtain ⟨p0, p1, p2, p3, p4, p5⟩ := f
      first | (go_simp; done) | (go_simp; with_reducible rfl)
    refine wpAnyH_take (i := 8) (v := ?_) rfl (by kernel_rfl) (by kernel_rfl) (by kernel_rfl) (fun _ _ _ h => h) (Or.inl ⟨by kernel_rfl, fun W hW => ?_⟩) hS ?_
    rotate_left
    · obtain ⟨a0, a1, a2, a3, a4, a5, a6, a7⟩ := HO.out W hW.bel
      have f := hW.at0
      simp only [List.mem_cons, List.not_mem_nil, or_false, forall_eq_or_imp, forall_eq] at f
      obtain ⟨p0, p1, p2, p3, p4, p5⟩ := f
      first | (go_simp; done) | (go_simp; with_reducible rfl)
    try go_simp
    refine wpAnyH_ready (rs := [7]) (by kernel_rfl) (by simp) ?_
    refine AllReadyH.cons rfl (fun K hK => ?_) AllReadyH.nil
    have hcall := rside_any x (fillT r y).norm (E.tv oa Aa na ca) (E.tv z8 A8 n8 c8) wd (E.InP.up EX.out HXd.out.bel) (HXd.out.eget (by simp)) OKX.out (E.okT_norm (fill_ok _ OKY.out))
    unfold E.tv at hcall
    go_simp
    go_wp2_with fail
    refine hcall.mono ?_
    rintro e wdx ⟨v9, rfl, ht9, hbx⟩
    obtain ⟨A9, n9, c9, rfl⟩ := E.InP.form ht9
    simp only [E.Tr.N] at ht9 ⊢
    have HXdx := Lib.hid ((HXd.out.next hbx).e ht9)
    clear hcall ht9 hbx HXd
    unfold E.tv
    refine hK.out _ _ (HXdx.out.sub (by simp) (by simp) (by simp) (by simp)) (fun hS => ?_)
    clear hK K
    try go_simp
    refine wpAnyH_ready (rs := [9]) (by kernel_rfl) (by simp) ?_
    refine AllReadyH.cons rfl (fun K hK => ?_) AllReadyH.nil
    have hcall := rnode_any z (.leaf (max (E.high x) (E.low (fillT r y).norm))) (fillT r y).norm (E.tv (max (E.high x) (E.low (fillT r y).norm)) A9 n9 c9) (E.tv z8 A8 n8 c8) wdx (HXdx.out.eget (by simp)) (HXdx.out.eget (by simp)) HNK.out
    unfold E.tv at hcall
    go_simp
    go_wp2_with fail
    refine hcall.mono ?_
    rintro e wdxx ⟨v7, rfl, ht7, hbx⟩
    obtain ⟨A7, n7, c7, rfl⟩ := E.InP.form ht7
    obtain ⟨z7, hz7⟩ : ∃ z7, (E.Tr.node z (.leaf (max (E.high x) (E.low (fillT r y).norm))) (fillT r y).norm).norm.N = z7 := ⟨_, rfl⟩
    rw [hz7] at ht7 ⊢
    clear hz7
    have HXdxx := Lib.hid ((HXdx.out.next hbx).e ht7)
    clear hcall ht7 hbx HXdx
    unfold E.tv
    refine hK.out _ _ (HXdxx.out.sub (by simp) (by simp) (by simp) (by simp)) (fun hS => ?_)
    clear hK K
    try go_simp
    refine wpAnyH_ready (rs := [10]) (by kernel_rfl) (by simp) ?_
    refine AllReadyH.cons rfl (fun K hK => ?_) AllReadyH.nil
    obtain ⟨y0, y1, q0, q1, q2, q3⟩ := HXdxx.out.facts2 (w.heap.size + 1 + 1) (by simp)
    go_simp
    go_wp2
    have HXdxxx := Lib.hid ((HXdxx.out.sub (bs' := [(w.heap.size, 0, .bool false), (w.heap.size, 1, .slice (some ⟨bi, oi, none⟩) 2 ci), (w.heap.size + 1, 0, .int .i64 z), (w.heap.size + 1, 1, .slice (some ⟨b, off, none⟩) 2 c), (g8, 0, .int .i64 z8), (g8, 1, .slice A8 n8 c8)]) (rs' := [(w.heap.size + 1 + 1, 2)]) (is' := []) (es' := [((E.Tr.node z (.leaf (max (E.high x) (E.low (fillT r y).norm))) (fillT r y).norm).norm, E.tv z7 A7 n7 c7), ((fillT r y).norm, E.tv z8 A8 n8 c8)]) (by simp) (by simp) (by simp) (by simp)).set2 (w.heap.size + 1 + 1) (.int .i64 z7) (.slice A7 n7 c7) (by simp) (by simp only [List.mem_cons, List.not_mem_nil, or_false, forall_eq_or_imp, forall_eq]; omega) (by simp))
    clear q0 q1 q2 q3 HXdxx
    refine hK.out _ _ (HXdxxx.out.sub (by simp) (by simp) (by simp) (by simp)) (fun hS => ?_)
    clear hK K
    generalize (wdxx.setCell ⟨w.heap.size + 1 + 1, 0, none⟩ (.int .i64 z7)).setCell ⟨w.heap.size + 1 + 1, 1, none⟩ (.slice A7 n7 c7) = wdxxx at *
    try go_simp
    refine wpAnyH_done (by kernel_rfl) ?_ _
    have f := HXdxxx.out.at0
    simp only [List.mem_cons, List.not_mem_nil, or_false, forall_eq_or_imp, forall_eq] at f
    obtain ⟨f0, f1, f2, f3, f4, f5, f6, f7⟩ := f
    go_wp2
    refine bodyPost_ret (v := E.tv z7 A7 n7 c7) (by simp [results, Tryz.f41, go_sem, E.tv, f0, f1]) rfl ?_
    rw [HRE.out]
    exact ⟨_, rfl, HXdxxx.out.eget (by simp), HXdxxx.out.bel⟩
  | false =>
    obtain ⟨a0, a1, a2, a3, a4, a5, a6, a7⟩ := HO.out w3 HX3.out.bel
    have f := HX3.out.at0
    simp only [List.mem_cons, List.not_mem_nil, or_false, forall_eq_or_imp, forall_eq] at f
    obtain ⟨p0, p1, p2, p3, p4, p5⟩ := f
    have hc := rone_any r (I.tv or' Ar nr cr) w3 (IR.out.up HX3.out.bel)
    unfold I.tv at hc
    obtain ⟨rb, hrb⟩ : ∃ q, one r = q := ⟨_, rfl⟩
    rw [hrb] at hc
    go_wp2_with fail
    refine hc.mono ?_
    rintro e w4 ⟨rfl, hb4⟩
    have HX4 := Lib.hid (HX3.out.next hb4)
    have s4 : w.heap.size + 3 ≤ w4.heap.size := Nat.le_trans s3 hb4.size
    clear hc hb4 HX3 a0 a1 a2 a3 a4 a5 a6 a7 p0 p1 p2 p3 p4 p5 s3
    cases rb with
    | true =>
      have HRE : Hid ((fillT (.node l r) (.node z x y)).norm = (E.Tr.node z (fillT l x).norm (.leaf (max (E.high y) (E.low (fillT l x).norm)))).norm) := Lib.hid (by rw [fill_r hlb hrb, E.low_norm]; exact (norm_norms z _ _).symm)
      have HNK : Hid (E.okT (.node z (fillT l x).norm (.leaf (max (E.high y) (E.low (fillT l x).norm)))) = true) := Lib.hid (by have := HOK.out; rw [fill_r hlb hrb] at this; rw [E.low_norm]; exact okT_norms this)
      go_upto_region 12 with fail
      go_cut [9] (fun s8 wx => ∃ (g8 : Nat) (z8 : Int) (A8 : Option Addr) (n8 c8 : Nat), s8 = .pointer (some ⟨g8, 0, none⟩) ∧ w.heap.size + 3 ≤ g8 ∧ SX w [(w.heap.size, 0, .bool false), (w.heap.size, 1, .slice (some ⟨bi, oi, none⟩) 2 ci), (w.heap.size + 1, 0, .int .i64 z), (w.heap.size + 1, 1, .slice (some ⟨b, off, none⟩) 2 c), (g8, 0, .int .i64 z8), (g8, 1, .slice A8 n8 c8)] [(w.heap.size + 1 + 1, 2)] [] [((fillT l x).norm, E.tv z8 A8 n8 c8)] wx)
      case first =>
        refine wp_region_held_drew (S := fun W => SX w [(w.heap.size, 0, .bool false), (w.heap.size, 1, .slice (some ⟨bi, oi, none⟩) 2 ci), (w.heap.size + 1, 0, .int .i64 z), (w.heap.size + 1, 1, .slice (some ⟨b, off, none⟩) 2 c)] [(w.heap.size + 1 + 1, 2)] [] [] W) (by kernel_rfl) ((HX4.out.drew).sub0 (by simp) (by simp)) (fun hS => ?_)
        have HXd := Lib.hid ((HX4.out.drew).sub0 (bs' := [(w.heap.size, 0, .bool false), (w.heap.size, 1, .slice (some ⟨bi, oi, none⟩) 2 ci), (w.heap.size + 1, 0, .int .i64 z), (w.heap.size + 1, 1, .slice (some ⟨b, off, none⟩) 2 c)]) (rs' := [(w.heap.size + 1 + 1, 2)]) (by simp) (by simp))
        have sd : w.heap.size + 3 ≤ w4.drew.heap.size := by simpa using s4
        clear HX4
        generalize w4.drew = wd at *
        refine wpAnyH_take (i := 0) (v := ?_) rfl (by kernel_rfl) (by kernel_rfl) (by kernel_rfl) (fun _ _ _ h => h) (Yields.yieldsIf (Or.inl ⟨by kernel_rfl, ?_⟩)) hS ?_
        rotate_left
        · first | (intro w; go_simp; done) | (intro w; go_simp; with_reducible rfl)
        refine wpAnyH_take (i := 1) (v := ?_) rfl (by kernel_rfl) (by kernel_rfl) (by kernel_rfl) (fun _ _ _ h => h) (Or.inl ⟨by kernel_rfl, fun W hW => ?_⟩) hS ?_
        rotate_left
        · obtain ⟨a0, a1, a2, a3, a4, a5, a6, a7⟩ := HO.out W hW.bel
          have f := hW.at0
          simp only [List.mem_cons, List.not_mem_nil, or_false, forall_eq_or_imp, forall_eq] at f
          obtain ⟨p0, p1, p2, p3⟩ := f
          first | (go_simp; done) | (go_simp; with_reducible rfl)
        refine wpAnyH_take (i := 2) (v := ?_) rfl (by kernel_rfl) (by kernel_rfl) (by kernel_rfl) (fun _ _ _ h => h) (Yields.yieldsIf (Or.inl ⟨by kernel_rfl, ?_⟩)) hS ?_
        rotate_left
        · first | (intro w; go_simp; done) | (intro w; go_simp; with_reducible rfl)
        refine wpAnyH_take (i := 3) (v := ?_) rfl (by kernel_rfl) (by kernel_rfl) (by kernel_rfl) (fun _ _ _ h => h) (Or.inl ⟨by kernel_rfl, fun W hW => ?_⟩) hS ?_
        rotate_left
        · obtain ⟨a0, a1, a2, a3, a4, a5, a6, a7⟩ := HO.out W hW.bel
          have f := hW.at0
          simp only [List.mem_cons, List.not_mem_nil, or_false, forall_eq_or_imp, forall_eq] at f
          obtain ⟨p0, p1, p2, p3⟩ := f
          first | (go_simp; done) | (go_simp; with_reducible rfl)
        refine wpAnyH_take (i := 4) (v := ?_) rfl (by kernel_rfl) (by kernel_rfl) (by kernel_rfl) (fun _ _ _ h => h) (Yields.yieldsIf (Or.inl ⟨by kernel_rfl, ?_⟩)) hS ?_
        rotate_left
        · first | (intro w; go_simp; done) | (intro w; go_simp; with_reducible rfl)
        refine wpAnyH_take (i := 5) (v := ?_) rfl (by kernel_rfl) (by kernel_rfl) (by kernel_rfl) (fun _ _ _ h => h) (Or.inl ⟨by kernel_rfl, fun W hW => ?_⟩) hS ?_
        rotate_left
        · obtain ⟨a0, a1, a2, a3, a4, a5, a6, a7⟩ := HO.out W hW.bel
          have f := hW.at0
          simp only [List.mem_cons, List.not_mem_nil, or_false, forall_eq_or_imp, forall_eq] at f
          obtain ⟨p0, p1, p2, p3⟩ := f
          first | (go_simp; done) | (go_simp; with_reducible rfl)
        refine wpAnyH_take (i := 6) (v := ?_) rfl (by kernel_rfl) (by kernel_rfl) (by kernel_rfl) (fun _ _ _ h => h) (Yields.yieldsIf (Or.inl ⟨by kernel_rfl, ?_⟩)) hS ?_
        rotate_left
        · first | (intro w; go_simp; done) | (intro w; go_simp; with_reducible rfl)
        refine wpAnyH_take (i := 7) (v := ?_) rfl (by kernel_rfl) (by kernel_rfl) (by kernel_rfl) (fun _ _ _ h => h) (Or.inl ⟨by kernel_rfl, fun W hW => ?_⟩) hS ?_
        rotate_left
        · obtain ⟨a0, a1, a2, a3, a4, a5, a6, a7⟩ := HO.out W hW.bel
          have f := hW.at0
          simp only [List.mem_cons, List.not_mem_nil, or_false, forall_eq_or_imp, forall_eq] at f
          obtain ⟨p0, p1, p2, p3⟩ := f
          first | (go_simp; done) | (go_simp; with_reducible rfl)
        refine wpAnyH_ready (rs := [8, 9]) (by kernel_rfl) (by simp) ?_
        refine AllReadyH.cons rfl (fun K hK => ?_) (AllReadyH.cons rfl (fun K hK => ?_) AllReadyH.nil)
        · have hcall := IHL.out x (I.tv ol Al nl cl) (E.tv oa Aa na ca) wd (IL.out.up HXd.out.bel) (E.InP.up EX.out HXd.out.bel) NX.out OKX.out
          unfold I.tv E.tv at hcall
          go_simp
          go_wp2_with fail
          refine hcall.mono ?_
          rintro e wdx ⟨v8, rfl, ht8, hbx⟩
          obtain ⟨A8, n8, c8, rfl⟩ := E.InP.form ht8
          obtain ⟨z8, hz8⟩ : ∃ z8, (fillT l x).norm.N = z8 := ⟨_, rfl⟩
          rw [hz8] at ht8 ⊢
          clear hz8
          have HXdx := Lib.hid ((HXd.out.next hbx).e ht8)
          have szwdx : wd.heap.size ≤ wdx.heap.size := hbx.size
          clear hcall ht8 hbx HXd
          unfold E.tv
          refine hK.out _ _ (HXdx.out.sub0 (by simp) (by simp)) (fun hS => ?_)
          clear hK K
          refine wpAnyH_ready (rs := [9]) (by kernel_rfl) (by simp) ?_
          refine AllReadyH.cons rfl (fun K hK => ?_) AllReadyH.nil
          go_simp
          go_wp2
          have HXdxx' := HXdx.out.two (.int .i64 0) (.slice none 0 0) 27
          have HXdxx := Lib.hid HXdxx'
          clear HXdxx' HXdx
          simp only [List.nil_append, List.cons_append] at HXdxx
          refine hK.out _ _ (HXdxx.out.sub0 (by simp) (by simp)) (fun hS => ?_)
          clear hK K
          have szwdxx : wdx.heap.size < (wdx.alloc (.cells #[.int .i64 0, .slice none 0 0] 27)).heap.size := by simp
          generalize wdx.alloc (.cells #[.int .i64 0, .slice none 0 0] 27) = wdxx at *
          refine wpAnyH_ready (rs := [10]) (by kernel_rfl) (by simp) ?_
          refine AllReadyH.cons rfl (fun K hK => ?_) AllReadyH.nil
          obtain ⟨y0, y1, q0, q1, q2, q3⟩ := HXdxx.out.facts2 (wdx.heap.size) (by simp)
          go_simp
          go_wp2
          have HXdxxx := Lib.hid ((HXdxx.out.sub (bs' := [(w.heap.size, 0, .bool false), (w.heap.size, 1, .slice (some ⟨bi, oi, none⟩) 2 ci), (w.heap.size + 1, 0, .int .i64 z), (w.heap.size + 1, 1, .slice (some ⟨b, off, none⟩) 2 c)]) (rs' := [(w.heap.size + 1 + 1, 2), (wdx.heap.size, 2)]) (is' := []) (es' := [((fillT l x).norm, E.tv z8 A8 n8 c8)]) (by simp) (by simp) (by simp) (by simp)).set2 (wdx.heap.size) (.int .i64 z8) (.slice A8 n8 c8) (by simp) (by simp only [List.mem_cons, List.not_mem_nil, or_false, forall_eq_or_imp, forall_eq]; omega) (by simp))
          clear q0 q1 q2 q3 HXdxx
          refine hK.out _ _ (HXdxxx.out.sub0 (by simp) (by simp)) (fun hS => ?_)
          clear hK K
          generalize (wdxx.setCell ⟨wdx.heap.size, 0, none⟩ (.int .i64 z8)).setCell ⟨wdx.heap.size, 1, none⟩ (.slice A8 n8 c8) = wdxxx at *
          try go_simp
          refine wpAnyH_done (by kernel_rfl) ?_ _
          go_wp2_with fail
          go_meet
          exact ⟨wdx.heap.size, z8, A8, n8, c8, rfl, by omega, HXdxxx.out.sub (by simp) (by simp) (by simp) (by simp)⟩
        · go_simp
          go_wp2
          have HXdx' := HXd.out.two (.int .i64 0) (.slice none 0 0) 27
          have HXdx := Lib.hid HXdx'
          clear HXdx' HXd
          simp only [List.nil_append, List.cons_append] at HXdx
          refine hK.out _ _ (HXdx.out.sub0 (by simp) (by simp)) (fun hS => ?_)
          clear hK K
          have szwdx : wd.heap.size < (wd.alloc (.cells #[.int .i64 0, .slice none 0 0] 27)).heap.size := by simp
          generalize wd.alloc (.cells #[.int .i64 0, .slice none 0 0] 27) = wdx at *
          refine wpAnyH_ready (rs := [8]) (by kernel_rfl) (by simp) ?_
          refine AllReadyH.cons rfl (fun K hK => ?_) AllReadyH.nil
          have hcall := IHL.out x (I.tv ol Al nl cl) (E.tv oa Aa na ca) wdx (IL.out.up HXdx.out.bel) (E.InP.up EX.out HXdx.out.bel) NX.out OKX.out
          unfold I.tv E.tv at hcall
          go_simp
          go_wp2_with fail
          refine hcall.mono ?_
          rintro e wdxx ⟨v8, rfl, ht8, hbx⟩
          obtain ⟨A8, n8, c8, rfl⟩ := E.InP.form ht8
          obtain ⟨z8, hz8⟩ : ∃ z8, (fillT l x).norm.N = z8 := ⟨_, rfl⟩
          rw [hz8] at ht8 ⊢
          clear hz8
          have HXdxx := Lib.hid ((HXdx.out.next hbx).e ht8)
          have szwdxx : wdx.heap.size ≤ wdxx.heap.size := hbx.size
          clear hcall ht8 hbx HXdx
          unfold E.tv
          refine hK.out _ _ (HXdxx.out.sub0 (by simp) (by simp)) (fun hS => ?_)
          clear hK K
          refine wpAnyH_ready (rs := [10]) (by kernel_rfl) (by simp) ?_
          refine AllReadyH.cons rfl (fun K hK => ?_) AllReadyH.nil
          obtain ⟨y0, y1, q0, q1, q2, q3⟩ := HXdxx.out.facts2 (wd.heap.size) (by simp)
          go_simp
          go_wp2
          have HXdxxx := Lib.hid ((HXdxx.out.sub (bs' := [(w.heap.size, 0, .bool false), (w.heap.size, 1, .slice (some ⟨bi, oi, none⟩) 2 ci), (w.heap.size + 1, 0, .int .i64 z), (w.heap.size + 1, 1, .slice (some ⟨b, off, none⟩) 2 c)]) (rs' := [(w.heap.size + 1 + 1, 2), (wd.heap.size, 2)]) (is' := []) (es' := [((fillT l x).norm, E.tv z8 A8 n8 c8)]) (by simp) (by simp) (by simp) (by simp)).set2 (wd.heap.size) (.int .i64 z8) (.slice A8 n8 c8) (by simp) (by simp only [List.mem_cons, List.not_mem_nil, or_false, forall_eq_or_imp, forall_eq]; omega) (by simp))
          clear q0 q1 q2 q3 HXdxx
          refine hK.out _ _ (HXdxxx.out.sub0 (by simp) (by simp)) (fun hS => ?_)
          clear hK K
          generalize (wdxx.setCell ⟨wd.heap.size, 0, none⟩ (.int .i64 z8)).setCell ⟨wd.heap.size, 1, none⟩ (.slice A8 n8 c8) = wdxxx at *
          try go_simp
          refine wpAnyH_done (by kernel_rfl) ?_ _
          go_wp2_with fail
          go_meet
          exact ⟨wd.heap.size, z8, A8, n8, c8, rfl, by omega, HXdxxx.out.sub (by simp) (by simp) (by simp) (by simp)⟩
      case rest =>
      obtain ⟨g8, z8, A8, n8, c8, rfl, n8', hX⟩ := hcut
      have HXR := Lib.hid hX
      clear hX HX4
      go_upto_region 13 with fail
      refine wp_region_held_drew (S := fun W => SX w [(w.heap.size, 0, .bool false), (w.heap.size, 1, .slice (some ⟨bi, oi, none⟩) 2 ci), (w.heap.size + 1, 0, .int .i64 z), (w.heap.size + 1, 1, .slice (some ⟨b, off, none⟩) 2 c), (g8, 0, .int .i64 z8), (g8, 1, .slice A8 n8 c8)] [(w.heap.size + 1 + 1, 2)] [] [((fillT l x).norm, E.tv z8 A8 n8 c8)] W) (by kernel_rfl) ((HXR.out.drew).sub (by simp) (by simp) (by simp) (by simp)) (fun hS => ?_)
      have HXd := Lib.hid (HXR.out.drew)
      clear HXR
      generalize wc.drew = wd at *
      refine wpAnyH_take (i := 0) (v := ?_) rfl (by kernel_rfl) (by kernel_rfl) (by kernel_rfl) (fun _ _ _ h => h) (Yields.yieldsIf (Or.inl ⟨by kernel_rfl, ?_⟩)) hS ?_
      rotate_left
      · first | (intro w; go_simp; done) | (intro w; go_simp; with_reducible rfl)
      refine wpAnyH_take (i := 1) (v := ?_) rfl (by kernel_rfl) (by kernel_rfl) (by kernel_rfl) (fun _ _ _ h => h) (Or.inl ⟨by kernel_rfl, fun W hW => ?_⟩) hS ?_
      rotate_left
      · obtain ⟨a0, a1, a2, a3, a4, a5, a6, a7⟩ := HO.out W hW.bel
        have f := hW.at0
        simp only [List.mem_cons, List.not_mem_nil, or_false, forall_eq_or_imp, forall_eq] at f
        obtain ⟨p0, p1, p2, p3, p4, p5⟩ := f
        first | (go_simp; done) | (go_simp; with_reducible rfl)
      refine wpAnyH_take (i := 2) (v := ?_) rfl (by kernel_rfl) (by kernel_rfl) (by kernel_rfl) (fun _ _ _ h => h) (Or.inl ⟨by kernel_rfl, fun W hW => ?_⟩) hS ?_
      rotate_left
      · obtain ⟨a0, a1, a2, a3, a4, a5, a6, a7⟩ := HO.out W hW.bel
        have f := hW.at0
        simp only [List.mem_cons, List.not_mem_nil, or_false, forall_eq_or_imp, forall_eq] at f
        obtain ⟨p0, p1, p2, p3, p4, p5⟩ := f
        first | (go_simp; done) | (go_simp; with_reducible rfl)
      refine wpAnyH_take (i := 3) (v := ?_) rfl (by kernel_rfl) (by kernel_rfl) (by kernel_rfl) (fun _ _ _ h => h) (Yields.yieldsIf (Or.inl ⟨by kernel_rfl, ?_⟩)) hS ?_
      rotate_left
      · first | (intro w; go_simp; done) | (intro w; go_simp; with_reducible rfl)
      refine wpAnyH_take (i := 4) (v := ?_) rfl (by kernel_rfl) (by kernel_rfl) (by kernel_rfl) (fun _ _ _ h => h) (Or.inl ⟨by kernel_rfl, fun W hW => ?_⟩) hS ?_
      rotate_left
      · obtain ⟨a0, a1, a2, a3, a4, a5, a6, a7⟩ := HO.out W hW.bel
        have f := hW.at0
        simp only [List.mem_cons, List.not_mem_nil, or_false, forall_eq_or_imp, forall_eq] at f
        obtain ⟨p0, p1, p2, p3, p4, p5⟩ := f
        first | (go_simp; done) | (go_simp; with_reducible rfl)
      refine wpAnyH_take (i := 5) (v := ?_) rfl (by kernel_rfl) (by kernel_rfl) (by kernel_rfl) (fun _ _ _ h => h) (Yields.yieldsIf (Or.inl ⟨by kernel_rfl, ?_⟩)) hS ?_
      rotate_left
      · first | (intro w; go_simp; done) | (intro w; go_simp; with_reducible rfl)
      refine wpAnyH_take (i := 6) (v := ?_) rfl (by kernel_rfl) (by kernel_rfl) (by kernel_rfl) (fun _ _ _ h => h) (Or.inl ⟨by kernel_rfl, fun W hW => ?_⟩) hS ?_
      rotate_left
      · obtain ⟨a0, a1, a2, a3, a4, a5, a6, a7⟩ := HO.out W hW.bel
        have f := hW.at0
        simp only [List.mem_cons, List.not_mem_nil, or_false, forall_eq_or_imp, forall_eq] at f
        obtain ⟨p0, p1, p2, p3, p4, p5⟩ := f
        first | (go_simp; done) | (go_simp; with_reducible rfl)
      refine wpAnyH_take (i := 7) (v := ?_) rfl (by kernel_rfl) (by kernel_rfl) (by kernel_rfl) (fun _ _ _ h => h) (Or.inl ⟨by kernel_rfl, fun W hW => ?_⟩) hS ?_
      rotate_left
      · obtain ⟨a0, a1, a2, a3, a4, a5, a6, a7⟩ := HO.out W hW.bel
        have f := hW.at0
        simp only [List.mem_cons, List.not_mem_nil, or_false, forall_eq_or_imp, forall_eq] at f
        obtain ⟨p0, p1, p2, p3, p4, p5⟩ := f
        first | (go_simp; done) | (go_simp; with_reducible rfl)
      try go_simp
      refine wpAnyH_ready (rs := [8]) (by kernel_rfl) (by simp) ?_
      refine AllReadyH.cons rfl (fun K hK => ?_) AllReadyH.nil
      have hcall := rside_any y (fillT l x).norm (E.tv ob Ab nb cb) (E.tv z8 A8 n8 c8) wd (E.InP.up EY.out HXd.out.bel) (HXd.out.eget (by simp)) OKY.out (E.okT_norm (fill_ok _ OKX.out))
      unfold E.tv at hcall
      go_simp
      go_wp2_with fail
      refine hcall.mono ?_
      rintro e wdx ⟨v9, rfl, ht9, hbx⟩
      obtain ⟨A9, n9, c9, rfl⟩ := E.InP.form ht9
      simp only [E.Tr.N] at ht9 ⊢
      have HXdx := Lib.hid ((HXd.out.next hbx).e ht9)
      clear hcall ht9 hbx HXd
      unfold E.tv
      refine hK.out _ _ (HXdx.out.sub (by simp) (by simp) (by simp) (by simp)) (fun hS => ?_)
      clear hK K
      try go_simp
      refine wpAnyH_ready (rs := [9]) (by kernel_rfl) (by simp) ?_
      refine AllReadyH.cons rfl (fun K hK => ?_) AllReadyH.nil
      have hcall := rnode_any z (fillT l x).norm (.leaf (max (E.high y) (E.low (fillT l x).norm))) (E.tv z8 A8 n8 c8) (E.tv (max (E.high y) (E.low (fillT l x).norm)) A9 n9 c9) wdx (HXdx.out.eget (by simp)) (HXdx.out.eget (by simp)) HNK.out
      unfold E.tv at hcall
      go_simp
      go_wp2_with fail
      refine hcall.mono ?_
      rintro e wdxx ⟨v7, rfl, ht7, hbx⟩
      obtain ⟨A7, n7, c7, rfl⟩ := E.InP.form ht7
      obtain ⟨z7, hz7⟩ : ∃ z7, (E.Tr.node z (fillT l x).norm (.leaf (max (E.high y) (E.low (fillT l x).norm)))).norm.N = z7 := ⟨_, rfl⟩
      rw [hz7] at ht7 ⊢
      clear hz7
      have HXdxx := Lib.hid ((HXdx.out.next hbx).e ht7)
      clear hcall ht7 hbx HXdx
      unfold E.tv
      refine hK.out _ _ (HXdxx.out.sub (by simp) (by simp) (by simp) (by simp)) (fun hS => ?_)
      clear hK K
      try go_simp
      refine wpAnyH_ready (rs := [10]) (by kernel_rfl) (by simp) ?_
      refine AllReadyH.cons rfl (fun K hK => ?_) AllReadyH.nil
      obtain ⟨y0, y1, q0, q1, q2, q3⟩ := HXdxx.out.facts2 (w.heap.size + 1 + 1) (by simp)
      go_simp
      go_wp2
      have HXdxxx := Lib.hid ((HXdxx.out.sub (bs' := [(w.heap.size, 0, .bool false), (w.heap.size, 1, .slice (some ⟨bi, oi, none⟩) 2 ci), (w.heap.size + 1, 0, .int .i64 z), (w.heap.size + 1, 1, .slice (some ⟨b, off, none⟩) 2 c), (g8, 0, .int .i64 z8), (g8, 1, .slice A8 n8 c8)]) (rs' := [(w.heap.size + 1 + 1, 2)]) (is' := []) (es' := [((E.Tr.node z (fillT l x).norm (.leaf (max (E.high y) (E.low (fillT l x).norm)))).norm, E.tv z7 A7 n7 c7), ((fillT l x).norm, E.tv z8 A8 n8 c8)]) (by simp) (by simp) (by simp) (by simp)).set2 (w.heap.size + 1 + 1) (.int .i64 z7) (.slice A7 n7 c7) (by simp) (by simp only [List.mem_cons, List.not_mem_nil, or_false, forall_eq_or_imp, forall_eq]; omega) (by simp))
      clear q0 q1 q2 q3 HXdxx
      refine hK.out _ _ (HXdxxx.out.sub (by simp) (by simp) (by simp) (by simp)) (fun hS => ?_)
      clear hK K
      generalize (wdxx.setCell ⟨w.heap.size + 1 + 1, 0, none⟩ (.int .i64 z7)).setCell ⟨w.heap.size + 1 + 1, 1, none⟩ (.slice A7 n7 c7) = wdxxx at *
      try go_simp
      refine wpAnyH_done (by kernel_rfl) ?_ _
      have f := HXdxxx.out.at0
      simp only [List.mem_cons, List.not_mem_nil, or_false, forall_eq_or_imp, forall_eq] at f
      obtain ⟨f0, f1, f2, f3, f4, f5, f6, f7⟩ := f
      go_wp2
      refine bodyPost_ret (v := E.tv z7 A7 n7 c7) (by simp [results, Tryz.f41, go_sem, E.tv, f0, f1]) rfl ?_
      rw [HRE.out]
      exact ⟨_, rfl, HXdxxx.out.eget (by simp), HXdxxx.out.bel⟩
    | false =>
      have HRE : Hid ((fillT (.node l r) (.node z x y)).norm = (E.Tr.node z (fillT l x).norm (fillT r y).norm).norm) := Lib.hid (by rw [fill_b hlb hrb]; exact (norm_norms z _ _).symm)
      have HNK : Hid (E.okT (.node z (fillT l x).norm (fillT r y).norm) = true) := Lib.hid (by have := HOK.out; rw [fill_b hlb hrb] at this; exact okT_norms this)
      go_upto_region 14 with fail
      refine wp_region_held_drew (S := fun W => SX w [(w.heap.size, 0, .bool false), (w.heap.size, 1, .slice (some ⟨bi, oi, none⟩) 2 ci), (w.heap.size + 1, 0, .int .i64 z), (w.heap.size + 1, 1, .slice (some ⟨b, off, none⟩) 2 c)] [(w.heap.size + 1 + 1, 2)] [] [] W) (by kernel_rfl) ((HX4.out.drew).sub0 (by simp) (by simp)) (fun hS => ?_)
      have HXd := Lib.hid ((HX4.out.drew).sub0 (bs' := [(w.heap.size, 0, .bool false), (w.heap.size, 1, .slice (some ⟨bi, oi, none⟩) 2 ci), (w.heap.size + 1, 0, .int .i64 z), (w.heap.size + 1, 1, .slice (some ⟨b, off, none⟩) 2 c)]) (rs' := [(w.heap.size + 1 + 1, 2)]) (by simp) (by simp))
      clear HX4
      generalize w4.drew = wd at *
      refine wpAnyH_take (i := 0) (v := ?_) rfl (by kernel_rfl) (by kernel_rfl) (by kernel_rfl) (fun _ _ _ h => h) (Yields.yieldsIf (Or.inl ⟨by kernel_rfl, ?_⟩)) hS ?_
      rotate_left
      · first | (intro w; go_simp; done) | (intro w; go_simp; with_reducible rfl)
      refine wpAnyH_take (i := 1) (v := ?_) rfl (by kernel_rfl) (by kernel_rfl) (by kernel_rfl) (fun _ _ _ h => h) (Or.inl ⟨by kernel_rfl, fun W hW => ?_⟩) hS ?_
      rotate_left
      · obtain ⟨a0, a1, a2, a3, a4, a5, a6, a7⟩ := HO.out W hW.bel
        have f := hW.at0
        simp only [List.mem_cons, List.not_mem_nil, or_false, forall_eq_or_imp, forall_eq] at f
        obtain ⟨p0, p1, p2, p3⟩ := f
        first | (go_simp; done) | (go_simp; with_reducible rfl)
      refine wpAnyH_take (i := 2) (v := ?_) rfl (by kernel_rfl) (by kernel_rfl) (by kernel_rfl) (fun _ _ _ h => h) (Yields.yieldsIf (Or.inl ⟨by kernel_rfl, ?_⟩)) hS ?_
      rotate_left
      · first | (intro w; go_simp; done) | (intro w; go_simp; with_reducible rfl)
      refine wpAnyH_take (i := 3) (v := ?_) rfl (by kernel_rfl) (by kernel_rfl) (by kernel_rfl) (fun _ _ _ h => h) (Or.inl ⟨by kernel_rfl, fun W hW => ?_⟩) hS ?_
      rotate_left
      · obtain ⟨a0, a1, a2, a3, a4, a5, a6, a7⟩ := HO.out W hW.bel
        have f := hW.at0
        simp only [List.mem_cons, List.not_mem_nil, or_false, forall_eq_or_imp, forall_eq] at f
        obtain ⟨p0, p1, p2, p3⟩ := f
        first | (go_simp; done) | (go_simp; with_reducible rfl)
      refine wpAnyH_take (i := 4) (v := ?_) rfl (by kernel_rfl) (by kernel_rfl) (by kernel_rfl) (fun _ _ _ h => h) (Yields.yieldsIf (Or.inl ⟨by kernel_rfl, ?_⟩)) hS ?_
      rotate_left
      · first | (intro w; go_simp; done) | (intro w; go_simp; with_reducible rfl)
      refine wpAnyH_take (i := 5) (v := ?_) rfl (by kernel_rfl) (by kernel_rfl) (by kernel_rfl) (fun _ _ _ h => h) (Or.inl ⟨by kernel_rfl, fun W hW => ?_⟩) hS ?_
      rotate_left
      · obtain ⟨a0, a1, a2, a3, a4, a5, a6, a7⟩ := HO.out W hW.bel
        have f := hW.at0
        simp only [List.mem_cons, List.not_mem_nil, or_false, forall_eq_or_imp, forall_eq] at f
        obtain ⟨p0, p1, p2, p3⟩ := f
        first | (go_simp; done) | (go_simp; with_reducible rfl)
      refine wpAnyH_take (i := 6) (v := ?_) rfl (by kernel_rfl) (by kernel_rfl) (by kernel_rfl) (fun _ _ _ h => h) (Yields.yieldsIf (Or.inl ⟨by kernel_rfl, ?_⟩)) hS ?_
      rotate_left
      · first | (intro w; go_simp; done) | (intro w; go_simp; with_reducible rfl)
      refine wpAnyH_take (i := 7) (v := ?_) rfl (by kernel_rfl) (by kernel_rfl) (by kernel_rfl) (fun _ _ _ h => h) (Or.inl ⟨by kernel_rfl, fun W hW => ?_⟩) hS ?_
      rotate_left
      · obtain ⟨a0, a1, a2, a3, a4, a5, a6, a7⟩ := HO.out W hW.bel
        have f := hW.at0
        simp only [List.mem_cons, List.not_mem_nil, or_false, forall_eq_or_imp, forall_eq] at f
        obtain ⟨p0, p1, p2, p3⟩ := f
        first | (go_simp; done) | (go_simp; with_reducible rfl)
      refine wpAnyH_take (i := 8) (v := ?_) rfl (by kernel_rfl) (by kernel_rfl) (by kernel_rfl) (fun _ _ _ h => h) (Yields.yieldsIf (Or.inl ⟨by kernel_rfl, ?_⟩)) hS ?_
      rotate_left
      · first | (intro w; go_simp; done) | (intro w; go_simp; with_reducible rfl)
      refine wpAnyH_take (i := 9) (v := ?_) rfl (by kernel_rfl) (by kernel_rfl) (by kernel_rfl) (fun _ _ _ h => h) (Or.inl ⟨by kernel_rfl, fun W hW => ?_⟩) hS ?_
      rotate_left
      · obtain ⟨a0, a1, a2, a3, a4, a5, a6, a7⟩ := HO.out W hW.bel
        have f := hW.at0
        simp only [List.mem_cons, List.not_mem_nil, or_false, forall_eq_or_imp, forall_eq] at f
        obtain ⟨p0, p1, p2, p3⟩ := f
        first | (go_simp; done) | (go_simp; with_reducible rfl)
      refine wpAnyH_take (i := 11) (v := ?_) rfl (by kernel_rfl) (by kernel_rfl) (by kernel_rfl) (fun _ _ _ h => h) (Yields.yieldsIf (Or.inl ⟨by kernel_rfl, ?_⟩)) hS ?_
      rotate_left
      · first | (intro w; go_simp; done) | (intro w; go_simp; with_reducible rfl)
      refine wpAnyH_take (i := 12) (v := ?_) rfl (by kernel_rfl) (by kernel_rfl) (by kernel_rfl) (fun _ _ _ h => h) (Or.inl ⟨by kernel_rfl, fun W hW => ?_⟩) hS ?_
      rotate_left
      · obtain ⟨a0, a1, a2, a3, a4, a5, a6, a7⟩ := HO.out W hW.bel
        have f := hW.at0
        simp only [List.mem_cons, List.not_mem_nil, or_false, forall_eq_or_imp, forall_eq] at f
        obtain ⟨p0, p1, p2, p3⟩ := f
        first | (go_simp; done) | (go_simp; with_reducible rfl)
      refine wpAnyH_take (i := 13) (v := ?_) rfl (by kernel_rfl) (by kernel_rfl) (by kernel_rfl) (fun _ _ _ h => h) (Yields.yieldsIf (Or.inl ⟨by kernel_rfl, ?_⟩)) hS ?_
      rotate_left
      · first | (intro w; go_simp; done) | (intro w; go_simp; with_reducible rfl)
      refine wpAnyH_take (i := 14) (v := ?_) rfl (by kernel_rfl) (by kernel_rfl) (by kernel_rfl) (fun _ _ _ h => h) (Or.inl ⟨by kernel_rfl, fun W hW => ?_⟩) hS ?_
      rotate_left
      · obtain ⟨a0, a1, a2, a3, a4, a5, a6, a7⟩ := HO.out W hW.bel
        have f := hW.at0
        simp only [List.mem_cons, List.not_mem_nil, or_false, forall_eq_or_imp, forall_eq] at f
        obtain ⟨p0, p1, p2, p3⟩ := f
        first | (go_simp; done) | (go_simp; with_reducible rfl)
      refine wpAnyH_take (i := 15) (v := ?_) rfl (by kernel_rfl) (by kernel_rfl) (by kernel_rfl) (fun _ _ _ h => h) (Yields.yieldsIf (Or.inl ⟨by kernel_rfl, ?_⟩)) hS ?_
      rotate_left
      · first | (intro w; go_simp; done) | (intro w; go_simp; with_reducible rfl)
      refine wpAnyH_take (i := 16) (v := ?_) rfl (by kernel_rfl) (by kernel_rfl) (by kernel_rfl) (fun _ _ _ h => h) (Or.inl ⟨by kernel_rfl, fun W hW => ?_⟩) hS ?_
      rotate_left
      · obtain ⟨a0, a1, a2, a3, a4, a5, a6, a7⟩ := HO.out W hW.bel
        have f := hW.at0
        simp only [List.mem_cons, List.not_mem_nil, or_false, forall_eq_or_imp, forall_eq] at f
        obtain ⟨p0, p1, p2, p3⟩ := f
        first | (go_simp; done) | (go_simp; with_reducible rfl)
      refine wpAnyH_take (i := 17) (v := ?_) rfl (by kernel_rfl) (by kernel_rfl) (by kernel_rfl) (fun _ _ _ h => h) (Yields.yieldsIf (Or.inl ⟨by kernel_rfl, ?_⟩)) hS ?_
      rotate_left
      · first | (intro w; go_simp; done) | (intro w; go_simp; with_reducible rfl)
      refine wpAnyH_take (i := 18) (v := ?_) rfl (by kernel_rfl) (by kernel_rfl) (by kernel_rfl) (fun _ _ _ h => h) (Or.inl ⟨by kernel_rfl, fun W hW => ?_⟩) hS ?_
      rotate_left
      · obtain ⟨a0, a1, a2, a3, a4, a5, a6, a7⟩ := HO.out W hW.bel
        have f := hW.at0
        simp only [List.mem_cons, List.not_mem_nil, or_false, forall_eq_or_imp, forall_eq] at f
        obtain ⟨p0, p1, p2, p3⟩ := f
        first | (go_simp; done) | (go_simp; with_reducible rfl)
      try go_simp
      refine wpAnyH_ready (rs := [10]) (by kernel_rfl) (by simp) ?_
      refine AllReadyH.cons rfl (fun K hK => ?_) AllReadyH.nil
      have hcall := IHL.out x (I.tv ol Al nl cl) (E.tv oa Aa na ca) wd (IL.out.up HXd.out.bel) (E.InP.up EX.out HXd.out.bel) NX.out OKX.out
      unfold I.tv E.tv at hcall
      go_simp
      go_wp2_with fail
      refine hcall.mono ?_
      rintro e wdx ⟨v5, rfl, ht5, hbx⟩
      obtain ⟨A5, n5, c5, rfl⟩ := E.InP.form ht5
      obtain ⟨z5, hz5⟩ : ∃ q, (fillT l x).norm.N = q := ⟨_, rfl⟩
      rw [hz5] at ht5 ⊢
      clear hz5
      have HXdx := Lib.hid ((HXd.out.next hbx).e ht5)
      clear hcall ht5 hbx HXd
      unfold E.tv
      refine hK.out _ _ (HXdx.out.sub0 (by simp) (by simp)) (fun hS => ?_)
      clear hK K
      try go_simp
      refine wpAnyH_ready (rs := [19]) (by kernel_rfl) (by simp) ?_
      refine AllReadyH.cons rfl (fun K hK => ?_) AllReadyH.nil
      have hcall := IHR.out y (I.tv or' Ar nr cr) (E.tv ob Ab nb cb) wdx (IR.out.up HXdx.out.bel) (E.InP.up EY.out HXdx.out.bel) NY.out OKY.out
      unfold I.tv E.tv at hcall
      go_simp
      go_wp2_with fail
      refine hcall.mono ?_
      rintro e wdxx ⟨v6, rfl, ht6, hbx⟩
      obtain ⟨A6, n6, c6, rfl⟩ := E.InP.form ht6
      obtain ⟨z6, hz6⟩ : ∃ q, (fillT r y).norm.N = q := ⟨_, rfl⟩
      rw [hz6] at ht6 ⊢
      clear hz6
      have HXdxx := Lib.hid ((HXdx.out.next hbx).e ht6)
      clear hcall ht6 hbx HXdx
      unfold E.tv
      refine hK.out _ _ (HXdxx.out.sub0 (by simp) (by simp)) (fun hS => ?_)
      clear hK K
      try go_simp
      refine wpAnyH_ready (rs := [20]) (by kernel_rfl) (by simp) ?_
      refine AllReadyH.cons rfl (fun K hK => ?_) AllReadyH.nil
      have hcall := rnode_any z (fillT l x).norm (fillT r y).norm (E.tv z5 A5 n5 c5) (E.tv z6 A6 n6 c6) wdxx (HXdxx.out.eget (by simp)) (HXdxx.out.eget (by simp)) HNK.out
      unfold E.tv at hcall
      go_simp
      go_wp2_with fail
      refine hcall.mono ?_
      rintro e wdxxx ⟨v7, rfl, ht7, hbx⟩
      obtain ⟨A7, n7, c7, rfl⟩ := E.InP.form ht7
      obtain ⟨z7, hz7⟩ : ∃ z7, (E.Tr.node z (fillT l x).norm (fillT r y).norm).norm.N = z7 := ⟨_, rfl⟩
      rw [hz7] at ht7 ⊢
      clear hz7
      have HXdxxx := Lib.hid ((HXdxx.out.next hbx).e ht7)
      clear hcall ht7 hbx HXdxx
      unfold E.tv
      refine hK.out _ _ (HXdxxx.out.sub0 (by simp) (by simp)) (fun hS => ?_)
      clear hK K
      try go_simp
      refine wpAnyH_ready (rs := [21]) (by kernel_rfl) (by simp) ?_
      refine AllReadyH.cons rfl (fun K hK => ?_) AllReadyH.nil
      obtain ⟨y0, y1, q0, q1, q2, q3⟩ := HXdxxx.out.facts2 (w.heap.size + 1 + 1) (by simp)
      go_simp
      go_wp2
      have HXdxxxx := Lib.hid ((HXdxxx.out.sub (bs' := [(w.heap.size, 0, .bool false), (w.heap.size, 1, .slice (some ⟨bi, oi, none⟩) 2 ci), (w.heap.size + 1, 0, .int .i64 z), (w.heap.size + 1, 1, .slice (some ⟨b, off, none⟩) 2 c)]) (rs' := [(w.heap.size + 1 + 1, 2)]) (is' := []) (es' := [((E.Tr.node z (fillT l x).norm (fillT r y).norm).norm, E.tv z7 A7 n7 c7)]) (by simp) (by simp) (by simp) (by simp)).set2 (w.heap.size + 1 + 1) (.int .i64 z7) (.slice A7 n7 c7) (by simp) (by simp only [List.mem_cons, List.not_mem_nil, or_false, forall_eq_or_imp, forall_eq]; omega) (by simp))
      clear q0 q1 q2 q3 HXdxxx
      refine hK.out _ _ (HXdxxxx.out.sub0 (by simp) (by simp)) (fun hS => ?_)
      clear hK K
      generalize (wdxxx.setCell ⟨w.heap.size + 1 + 1, 0, none⟩ (.int .i64 z7)).setCell ⟨w.heap.size + 1 + 1, 1, none⟩ (.slice A7 n7 c7) = wdxxxx at *
      try go_simp
      refine wpAnyH_done (by kernel_rfl) ?_ _
      have f := HXdxxxx.out.at0
      simp only [List.mem_cons, List.not_mem_nil, or_false, forall_eq_or_imp, forall_eq] at f
      obtain ⟨f0, f1, f2, f3, f4, f5⟩ := f
      go_wp2
      refine bodyPost_ret (v := E.tv z7 A7 n7 c7) (by simp [results, Tryz.f41, go_sem, E.tv, f0, f1]) rfl ?_
      rw [HRE.out]
      exact ⟨_, rfl, HXdxxxx.out.eget (by simp), HXdxxxx.out.bel⟩
theorem rfill_any : ∀ i : I.Tr, RF i
  | .leaf false => fun e u v w hi he hn _ => by
    obtain ⟨A, c, rfl⟩ := hi
    obtain ⟨B, m, d, rfl⟩ := E.InP.form he
    exact rfill_zero w he hn
  | .leaf true => fun e u v w hi he _ ho => by
    obtain ⟨A, c, rfl⟩ := hi
    obtain ⟨B, m, d, rfl⟩ := E.InP.form he
    exact rfill_one w he ho
  | .node l r => fun e u v w hi he hn ho => by
    cases e with
    | leaf n =>
      have hi' := hi
      obtain ⟨b, off, c, rfl, _⟩ := hi'
      obtain ⟨B, d, rfl⟩ := he
      rw [fill_leaf]
      exact rfill_nleaf w hi
    | node z x y =>
      have hi' := hi
      obtain ⟨bi, oi, ci, rfl, hbi, ⟨ol, Al, nl, cl, i2, i3, il⟩, ⟨or', Ar, nr, cr, i4, i5, ir⟩⟩ := hi'
      obtain ⟨b, off, c, rfl, hb, ⟨oa, Aa, na, ca, e0, e1, ex⟩, ⟨ob, Ab, nb, cb, e2, e3, ey⟩⟩ := he
      exact rfill_node w (rfill_any l) (rfill_any r) hi i2 i3 i4 i5 il ir e0 e1 e2 e3 ex ey hn ho
end Go.Proofs.YtoaglkjpjolacaaGreatDoor.S
