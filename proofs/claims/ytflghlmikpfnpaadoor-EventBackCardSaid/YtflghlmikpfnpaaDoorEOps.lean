/-
  Norm, Ends, Join, Leq, Same of trees that are handed in: the program's.
-/
import Derived.Test.YtflghlmikpfnpaaDoorELeq
namespace Go.Proofs.YtflghlmikpfnpaaDoor.E
open Go.RowKit

def normR : Option Tr → Tr × Int
  | some t => (t.norm, 0)
  | none => (.leaf 0, 2)
def endsR : Option Tr → Value
  | some t => .tuple #[.int .i64 (low t), .int .i64 (high t), .int .i64 0]
  | none => .tuple #[.int .i64 0, .int .i64 0, .int .i64 2]
def leqO : Option Tr → Option Tr → Bool
  | some a, some b => leqT a b 0 0
  | _, _ => false
def sameO (a b : Option Tr) : Bool := leqO a b && leqO b a
def joinR : Option Tr → Option Tr → Tr × Int
  | some a, some b => if okT (Tr.join a b 0 0) = true then (Tr.join a b 0 0, 0) else (.leaf 0, 2)
  | _, _ => (.leaf 0, 2)
theorem Arg.some' {w : World} {T : Option Tr} {v : Value} (h : Arg w T v) {t : Tr} (e : T = some t) : InT w w.heap.size t v ∧ okT t = true := by subst e; exact h.inT

set_option maxRecDepth 100000 in
set_option maxHeartbeats 1600000 in
theorem norm_arg {w : World} {T : Option Tr} {v : Value} (h : Arg w T v) : Calls Tryd.prog 12 #[v] w (Ans (normR T) w) := by
  obtain ⟨o, A, n, c, rfl⟩ := h.form
  have HA := Lib.hid h
  have HX := Lib.hid (((XS.begin w).boxed (.int .i64 o) (.slice A n c) 24).fresh (.int .i64 0) (.slice none 0 0) 24)
  simp only [List.nil_append, List.cons_append, World.size_alloc] at HX
  have hc1 := right_arg (h.up HX.out.bel)
  unfold tv at *
  clear h
  cases T with
  | none =>
    go_enter Tryd.func12, Tryd.ntmps12
    go_wp2_with fail
    refine hc1.mono ?_
    rintro e w1 ⟨rfl, hb1⟩
    have HX1 := Lib.hid (HX.out.next hb1)
    clear hb1 hc1 HX
    obtain ⟨u0, u1, ⟨c0, c1'⟩, f0, f1⟩ := HX1.out.facts (w.heap.size + 1) (by simp)
    have HFIN : Hid (∀ u1 u2, InP (fun _ => False) ((w1.setCell ⟨w.heap.size + 1, 0, none⟩ u1).setCell ⟨w.heap.size + 1, 1, none⟩ u2) (.leaf 0) (tv 0 none 0 0) ∧ Below w.heap.size w ((w1.setCell ⟨w.heap.size + 1, 0, none⟩ u1).setCell ⟨w.heap.size + 1, 1, none⟩ u2)) := fun u1 u2 => HX1.out.fin (P := fun _ => False) (t := .leaf 0) (x := tv 0 none 0 0) _ (by simp) ⟨none, 0, rfl⟩ _ _
    clear HX1
    go_wp2
    refine bodyPost_ret (v := .tuple #[tv 0 none 0 0, .int .i64 2]) (by simp [results, Tryd.f12, go_sem, tv, c0, c1']) rfl ?_
    exact ⟨_, rfl, (HFIN.out _ _).1.more fun _ h => h.elim, (HFIN.out _ _).2⟩
  | some t =>
    have hok := HA.out.inT.2
    go_enter Tryd.func12, Tryd.ntmps12
    go_wp2_with fail
    refine hc1.mono ?_
    rintro e w1 ⟨rfl, hb1⟩
    have HX1 := Lib.hid (HX.out.next hb1)
    clear hb1 hc1 HX
    have f := HX1.out.at0
    simp only [List.mem_cons, List.not_mem_nil, or_false, forall_eq_or_imp, forall_eq] at f
    obtain ⟨p0, p1⟩ := f
    have hc2 := norm_any t 4611686018427387904 _ _ w1 (HA.out.up HX1.out.bel).inT.1 ((okT_iff t).1 hok).2.1 (by omega)
    clear hok
    go_wp2_with fail
    refine hc2.mono ?_
    rintro e w3 ⟨v3, rfl, ht3, hb3⟩
    obtain ⟨A3, n3, c3, rfl⟩ := ht3.form
    have HX3 := Lib.hid (HX1.out.next hb3)
    have HT3 : Hid (InP (New w w3) w3 t.norm (tv t.norm.N A3 n3 c3)) := ht3.more fun b hb => ⟨Nat.le_trans HX1.out.bel.size hb.1, hb.2⟩
    have HNR : Hid (normR (some t) = (t.norm, 0)) := rfl
    obtain ⟨z, hz⟩ : ∃ z, t.norm.N = z := ⟨_, rfl⟩
    rw [hz] at HT3 ⊢
    clear hb3 ht3 hc2 HX1 p0 p1 hz
    obtain ⟨u0, u1, ⟨c0, c1'⟩, f0, f1⟩ := HX3.out.facts (w.heap.size + 1) (by simp)
    have HFIN : Hid (∀ u1 u2, InP (New w w3) ((w3.setCell ⟨w.heap.size + 1, 0, none⟩ u1).setCell ⟨w.heap.size + 1, 1, none⟩ u2) t.norm (tv z A3 n3 c3) ∧ Below w.heap.size w ((w3.setCell ⟨w.heap.size + 1, 0, none⟩ u1).setCell ⟨w.heap.size + 1, 1, none⟩ u2)) := fun u1 u2 => HX3.out.fin (w.heap.size + 1) (by simp) HT3.out _ _
    clear HX3 HT3
    unfold tv
    go_wp2
    refine bodyPost_ret (v := .tuple #[tv z A3 n3 c3, .int .i64 0]) (by simp [results, Tryd.f12, go_sem, tv, c0, c1']) rfl ?_
    rw [HNR.out]
    exact ⟨_, rfl, (HFIN.out _ _).1.more fun b hb => ⟨hb.1, by rw [size_set, size_set]; exact hb.2⟩, (HFIN.out _ _).2⟩

set_option maxRecDepth 100000 in
set_option maxHeartbeats 1600000 in
theorem ends_arg {w : World} {T : Option Tr} {v : Value} (h : Arg w T v) : Calls Tryd.prog 14 #[v] w fun e w' => e = .returned (endsR T) ∧ Below w.heap.size w w' := by
  obtain ⟨o, A, n, c, rfl⟩ := h.form
  have HA := Lib.hid h
  have HX := Lib.hid ((XS.begin w).boxed (.int .i64 o) (.slice A n c) 24)
  simp only [List.nil_append] at HX
  have hc1 := right_arg (h.up HX.out.bel)
  unfold tv at *
  clear h
  cases T with
  | none =>
    go_enter Tryd.func14, Tryd.ntmps14
    go_wp2_with fail
    refine hc1.mono ?_
    rintro e w1 ⟨rfl, hb1⟩
    have HX1 := Lib.hid (HX.out.next hb1)
    clear hb1 hc1 HX
    go_wp2
    refine bodyPost_ret (results_tmp3 rfl _ _ _) rfl ?_
    exact ⟨rfl, HX1.out.bel⟩
  | some t =>
    have hok := HA.out.inT.2
    go_enter Tryd.func14, Tryd.ntmps14
    go_wp2_with fail
    refine hc1.mono ?_
    rintro e w1 ⟨rfl, hb1⟩
    have HX1 := Lib.hid (HX.out.next hb1)
    clear hb1 hc1 HX
    have f := HX1.out.at0
    simp only [List.mem_cons, List.not_mem_nil, or_false, forall_eq_or_imp, forall_eq] at f
    obtain ⟨p0, p1⟩ := f
    have hc2 := ends_any t 0 _ _ w1 (HA.out.up HX1.out.bel).inT.1 (by omega) (by omega) ((okT_iff t).1 hok).2.1
    simp only [Int.zero_add] at hc2
    have HE : Hid (endsR (some t) = .tuple #[.int .i64 (low t), .int .i64 (high t), .int .i64 0]) := rfl
    generalize low t = L at *
    generalize high t = M at *
    clear hok
    go_wp2_with fail
    refine hc2.mono ?_
    rintro e w3 ⟨rfl, hb3⟩
    have HX3 := Lib.hid (HX1.out.next hb3)
    clear hb3 hc2 HX1 p0 p1
    go_wp2
    refine bodyPost_ret (results_tmp3 rfl _ _ _) rfl ?_
    exact ⟨by rw [HE.out]; rfl, HX3.out.bel⟩

set_option maxRecDepth 100000 in
set_option maxHeartbeats 1600000 in
theorem leq_arg {w : World} {S T : Option Tr} {u v : Value} (hu : Arg w S u) (hv : Arg w T v) : Calls Tryd.prog 21 #[u, v] w fun e w' => e = .returned (.bool (leqO S T)) ∧ Below w.heap.size w w' := by
  obtain ⟨o1, A1, n1, c1, rfl⟩ := hu.form
  obtain ⟨o2, A2, n2, c2, rfl⟩ := hv.form
  have HA := Lib.hid hu
  have HB := Lib.hid hv
  have HX := Lib.hid (((XS.begin w).boxed (.int .i64 o1) (.slice A1 n1 c1) 24).boxed (.int .i64 o2) (.slice A2 n2 c2) 24)
  simp only [List.nil_append, List.cons_append, World.size_alloc] at HX
  have hc1 := right_arg (hu.up HX.out.bel)
  unfold tv at *
  clear hu hv
  go_enter Tryd.func21, Tryd.ntmps21
  go_wp2_with fail
  refine hc1.mono ?_
  rintro e w1 ⟨rfl, hb1⟩
  have HX1 := Lib.hid (HX.out.next hb1)
  clear hb1 hc1 HX
  have f := HX1.out.at0
  simp only [List.mem_cons, List.not_mem_nil, or_false, forall_eq_or_imp, forall_eq] at f
  obtain ⟨p0, p1, p2, p3⟩ := f
  cases S with
  | none =>
    go_wp2
    go_ret
    exact ⟨rfl, HX1.out.bel⟩
  | some a =>
    have hc2 := right_arg (HB.out.up HX1.out.bel)
    go_wp2_with fail
    refine hc2.mono ?_
    rintro e w2 ⟨rfl, hb2⟩
    have HX2 := Lib.hid (HX1.out.next hb2)
    clear hb2 hc2 HX1 p0 p1 p2 p3
    have f := HX2.out.at0
    simp only [List.mem_cons, List.not_mem_nil, or_false, forall_eq_or_imp, forall_eq] at f
    obtain ⟨p0, p1, p2, p3⟩ := f
    cases T with
    | none =>
      go_wp2
      go_ret
      exact ⟨rfl, HX2.out.bel⟩
    | some b =>
      have ha := (HA.out.up HX2.out.bel).inT
      have hb := (HB.out.up HX2.out.bel).inT
      have hc3 := leq_any a b 0 0 _ _ _ w2 ha.1 hb.1 (by omega) (by omega) (by omega) (by omega) ((okT_iff a).1 ha.2).2.1 ((okT_iff b).1 hb.2).2.1
      have HL : Hid (leqO (some a) (some b) = leqT a b 0 0) := rfl
      generalize leqT a b 0 0 = r at *
      clear ha hb
      go_wp2_with fail
      refine hc3.mono ?_
      rintro e w3 ⟨rfl, hb3⟩
      have HX3 := Lib.hid (HX2.out.next hb3)
      clear hb3 hc3 HX2 p0 p1 p2 p3
      go_wp2
      go_ret
      exact ⟨ret_bool (by rw [HL.out]), HX3.out.bel⟩

set_option maxRecDepth 100000 in
set_option maxHeartbeats 1600000 in
theorem same_arg {w : World} {S T : Option Tr} {u v : Value} (hu : Arg w S u) (hv : Arg w T v) : Calls Tryd.prog 23 #[u, v] w fun e w' => e = .returned (.bool (sameO S T)) ∧ Below w.heap.size w w' := by
  obtain ⟨o1, A1, n1, c1, rfl⟩ := hu.form
  obtain ⟨o2, A2, n2, c2, rfl⟩ := hv.form
  have HX := Lib.hid (((XS.begin w).boxed (.int .i64 o1) (.slice A1 n1 c1) 24).boxed (.int .i64 o2) (.slice A2 n2 c2) 24)
  simp only [List.nil_append, List.cons_append, World.size_alloc] at HX
  have hc1 := leq_arg (hu.up HX.out.bel) (hv.up HX.out.bel)
  have HC2 : Hid (∀ W, Below w.heap.size w W → Calls Tryd.prog 21 #[tv o2 A2 n2 c2, tv o1 A1 n1 c1] W fun e w' => e = .returned (.bool (leqO T S)) ∧ Below W.heap.size W w') := fun W hW => leq_arg (hv.up hW) (hu.up hW)
  have HS : Hid (sameO S T = (leqO S T && leqO T S)) := rfl
  rw [HS.out]
  unfold tv at *
  clear hu hv HS
  generalize leqO S T = r1 at *
  generalize leqO T S = r2 at *
  go_enter Tryd.func23, Tryd.ntmps23
  go_wp2_with fail
  refine hc1.mono ?_
  rintro e w1 ⟨rfl, hb1⟩
  have HX1 := Lib.hid (HX.out.next hb1)
  clear hb1 hc1 HX
  have f := HX1.out.at0
  simp only [List.mem_cons, List.not_mem_nil, or_false, forall_eq_or_imp, forall_eq] at f
  obtain ⟨p0, p1, p2, p3⟩ := f
  cases r1 with
  | false =>
    go_wp2
    go_ret
    exact ⟨rfl, HX1.out.bel⟩
  | true =>
    have hc2 := HC2.out w1 HX1.out.bel
    go_wp2_with fail
    refine hc2.mono ?_
    rintro e w2 ⟨rfl, hb2⟩
    have HX2 := Lib.hid (HX1.out.next hb2)
    clear hb2 hc2 HX1 p0 p1 p2 p3
    go_wp2
    go_ret
    exact ⟨ret_bool (by simp), HX2.out.bel⟩

set_option maxRecDepth 100000 in
set_option maxHeartbeats 1600000 in
theorem join_arg {w : World} {S T : Option Tr} {u v : Value} (hu : Arg w S u) (hv : Arg w T v) : Calls Tryd.prog 19 #[u, v] w (Ans (joinR S T) w) := by
  obtain ⟨o1, A1, n1, c1, rfl⟩ := hu.form
  obtain ⟨o2, A2, n2, c2, rfl⟩ := hv.form
  have HA := Lib.hid hu
  have HB := Lib.hid hv
  have HX := Lib.hid ((((XS.begin w).boxed (.int .i64 o1) (.slice A1 n1 c1) 24).boxed (.int .i64 o2) (.slice A2 n2 c2) 24).fresh (.int .i64 0) (.slice none 0 0) 24)
  simp only [List.nil_append, List.cons_append, World.size_alloc] at HX
  have hc1 := right_arg (hu.up HX.out.bel)
  unfold tv at *
  clear hu hv
  go_enter Tryd.func19, Tryd.ntmps19
  go_wp2_with fail
  refine hc1.mono ?_
  rintro e w1 ⟨rfl, hb1⟩
  have HX1 := Lib.hid (HX.out.next hb1)
  clear hb1 hc1 HX
  have f := HX1.out.at0
  simp only [List.mem_cons, List.not_mem_nil, or_false, forall_eq_or_imp, forall_eq] at f
  obtain ⟨p0, p1, p2, p3⟩ := f
  cases S with
  | none =>
    obtain ⟨u0, u1, ⟨c0, c1'⟩, f0, f1⟩ := HX1.out.facts (w.heap.size + 1 + 1) (by simp)
    have HFIN : Hid (∀ u1 u2, InP (fun _ => False) ((w1.setCell ⟨w.heap.size + 1 + 1, 0, none⟩ u1).setCell ⟨w.heap.size + 1 + 1, 1, none⟩ u2) (.leaf 0) (tv 0 none 0 0) ∧ Below w.heap.size w ((w1.setCell ⟨w.heap.size + 1 + 1, 0, none⟩ u1).setCell ⟨w.heap.size + 1 + 1, 1, none⟩ u2)) := fun u1 u2 => HX1.out.fin (P := fun _ => False) (t := .leaf 0) (x := tv 0 none 0 0) _ (by simp) ⟨none, 0, rfl⟩ _ _
    clear HX1
    go_wp2
    refine bodyPost_ret (v := .tuple #[tv 0 none 0 0, .int .i64 2]) (by simp [results, Tryd.f19, go_sem, tv, c0, c1']) rfl ?_
    exact ⟨_, rfl, (HFIN.out _ _).1.more fun _ h => h.elim, (HFIN.out _ _).2⟩
  | some a =>
    have hc2 := right_arg (HB.out.up HX1.out.bel)
    go_wp2_with fail
    refine hc2.mono ?_
    rintro e w2 ⟨rfl, hb2⟩
    have HX2 := Lib.hid (HX1.out.next hb2)
    clear hb2 hc2 HX1 p0 p1 p2 p3
    have f := HX2.out.at0
    simp only [List.mem_cons, List.not_mem_nil, or_false, forall_eq_or_imp, forall_eq] at f
    obtain ⟨p0, p1, p2, p3⟩ := f
    cases T with
    | none =>
      obtain ⟨u0, u1, ⟨c0, c1'⟩, f0, f1⟩ := HX2.out.facts (w.heap.size + 1 + 1) (by simp)
      have HFIN : Hid (∀ u1 u2, InP (fun _ => False) ((w2.setCell ⟨w.heap.size + 1 + 1, 0, none⟩ u1).setCell ⟨w.heap.size + 1 + 1, 1, none⟩ u2) (.leaf 0) (tv 0 none 0 0) ∧ Below w.heap.size w ((w2.setCell ⟨w.heap.size + 1 + 1, 0, none⟩ u1).setCell ⟨w.heap.size + 1 + 1, 1, none⟩ u2)) := fun u1 u2 => HX2.out.fin (P := fun _ => False) (t := .leaf 0) (x := tv 0 none 0 0) _ (by simp) ⟨none, 0, rfl⟩ _ _
      clear HX2
      go_wp2
      refine bodyPost_ret (v := .tuple #[tv 0 none 0 0, .int .i64 2]) (by simp [results, Tryd.f19, go_sem, tv, c0, c1']) rfl ?_
      exact ⟨_, rfl, (HFIN.out _ _).1.more fun _ h => h.elim, (HFIN.out _ _).2⟩
    | some b =>
      have ha := (HA.out.up HX2.out.bel).inT
      have hb := (HB.out.up HX2.out.bel).inT
      have hc3 := join_any (a.nodes + b.nodes + 1) a b 0 0 _ _ _ w2 (by omega) ha.1 hb.1 (by omega) (by omega) (by omega) (by omega) ((okT_iff a).1 ha.2).2.1 ((okT_iff b).1 hb.2).2.1
      have HL : Hid (joinR (some a) (some b) = if okT (Tr.join a b 0 0) = true then (Tr.join a b 0 0, 0) else (.leaf 0, 2)) := rfl
      clear ha hb
      generalize Tr.join a b 0 0 = J at *
      go_wp2_with fail
      refine hc3.mono ?_
      rintro e w3 ⟨v3, rfl, ht3, hb3⟩
      obtain ⟨A3, n3, c3, rfl⟩ := ht3.form
      have hx3 := HX2.out.next hb3
      have hbx : Below w3.heap.size w3 (w3.alloc (.cells #[.int .i64 J.N, .slice A3 n3 c3] 24)) := (Below.refl _ w3).alloc (Nat.le_refl _) _
      have HX3 := Lib.hid (hx3.boxed (.int .i64 J.N) (.slice A3 n3 c3) 24)
      have HT3 : Hid (InP (New w w3) (w3.alloc (.cells #[.int .i64 J.N, .slice A3 n3 c3] 24)) J (tv J.N A3 n3 c3)) := (ht3.more fun b hb => ⟨Nat.le_trans HX2.out.bel.size hb.1, hb.2⟩).stay hbx
      have hc4 := right_arg (arg_of (ht3.old.up hbx))
      rw [fit_some] at hc4
      simp only [List.nil_append, List.cons_append] at HX3
      clear hb3 ht3 hc3 HX2 hx3 hbx p0 p1 p2 p3
      obtain ⟨z, hz⟩ : ∃ z, J.N = z := ⟨_, rfl⟩
      rw [hz] at HX3 HT3 hc4 ⊢
      obtain ⟨r, hr⟩ : ∃ r, okT J = r := ⟨_, rfl⟩
      rw [hr] at hc4 HL
      clear hz hr
      unfold tv at hc4 ⊢
      go_wp2_with fail
      refine hc4.mono ?_
      rintro e w4 ⟨rfl, hb4⟩
      have HX4 := Lib.hid (HX3.out.next hb4)
      have HT4 : Hid (InP (New w w4) w4 J (tv z A3 n3 c3)) := (HT3.out.stay hb4).more fun b hb => ⟨hb.1, by have := hb4.size; have := hb.2; simp at *; omega⟩
      clear hb4 hc4 HX3 HT3
      have f := HX4.out.at0
      simp only [List.mem_cons, List.not_mem_nil, or_false, forall_eq_or_imp, forall_eq] at f
      obtain ⟨p0, p1, p2, p3, p4, p5⟩ := f
      cases r with
      | false =>
        obtain ⟨u0, u1, ⟨c0, c1'⟩, f0, f1⟩ := HX4.out.facts (w.heap.size + 1 + 1) (by simp)
        have HFIN : Hid (∀ u1 u2, InP (fun _ => False) ((w4.setCell ⟨w.heap.size + 1 + 1, 0, none⟩ u1).setCell ⟨w.heap.size + 1 + 1, 1, none⟩ u2) (.leaf 0) (tv 0 none 0 0) ∧ Below w.heap.size w ((w4.setCell ⟨w.heap.size + 1 + 1, 0, none⟩ u1).setCell ⟨w.heap.size + 1 + 1, 1, none⟩ u2)) := fun u1 u2 => HX4.out.fin (P := fun _ => False) (t := .leaf 0) (x := tv 0 none 0 0) _ (by simp) ⟨none, 0, rfl⟩ _ _
        clear HX4
        go_wp2
        refine bodyPost_ret (v := .tuple #[tv 0 none 0 0, .int .i64 2]) (by simp [results, Tryd.f19, go_sem, tv, c0, c1']) rfl ?_
        rw [HL.out]
        exact ⟨_, rfl, (HFIN.out _ _).1.more fun _ h => h.elim, (HFIN.out _ _).2⟩
      | true =>
        clear p0 p1 p2 p3
        obtain ⟨u0, u1, ⟨c0, c1'⟩, f0, f1⟩ := HX4.out.facts (w.heap.size + 1 + 1) (by simp)
        have HFIN : Hid (∀ u1 u2, InP (New w w4) ((w4.setCell ⟨w.heap.size + 1 + 1, 0, none⟩ u1).setCell ⟨w.heap.size + 1 + 1, 1, none⟩ u2) J (tv z A3 n3 c3) ∧ Below w.heap.size w ((w4.setCell ⟨w.heap.size + 1 + 1, 0, none⟩ u1).setCell ⟨w.heap.size + 1 + 1, 1, none⟩ u2)) := fun u1 u2 => HX4.out.fin (w.heap.size + 1 + 1) (by simp) HT4.out _ _
        clear HX4 HT4
        go_wp2
        refine bodyPost_ret (v := .tuple #[tv z A3 n3 c3, .int .i64 0]) (by simp [results, Tryd.f19, go_sem, tv, c0, c1']) rfl ?_
        rw [HL.out]
        exact ⟨_, rfl, (HFIN.out _ _).1.more fun b hb => ⟨hb.1, by rw [size_set, size_set]; exact hb.2⟩, (HFIN.out _ _).2⟩

end Go.Proofs.YtflghlmikpfnpaaDoor.E
