/-
  IdThree: the walk of the law.
-/
import Derived.Test.YtkpefelakhbkhaaISplits
namespace Go.Proofs.Ytkpefelakhbkhaa.I
open Go.RowKit

theorem sumR_comm (S T : Option Tr) : sumR S T = sumR T S := by
  cases S with
  | none => cases T <;> rfl
  | some s =>
    cases T with
    | none => rfl
    | some t => simp only [sumR, both_comm s t, sum_comm s t]
theorem sumR_fit (S T : Option Tr) : fit (sumR S T).1 = some (sumR S T).1 := by
  have h0 : fit (.leaf false) = some (.leaf false) := rfl
  cases S with
  | none => exact h0
  | some s =>
    cases T with
    | none => exact h0
    | some t =>
      simp only [sumR]
      split
      · exact h0
      · split
        · rename_i h; exact fit_isSome h
        · exact h0
theorem sumR_two (S T : Option Tr) : (sumR S T).2 = 0 ∨ (sumR S T).2 = 2 ∨ (sumR S T).2 = 42 := by
  cases S with
  | none => exact .inr (.inl rfl)
  | some s =>
    cases T with
    | none => exact .inr (.inl rfl)
    | some t =>
      simp only [sumR]
      split
      · exact .inr (.inr rfl)
      · split
        · exact .inl rfl
        · exact .inr (.inl rfl)
theorem sumR_ok {S T : Option Tr} (h : (sumR S T).2 = 0) : ∃ s t, S = some s ∧ T = some t ∧ bothT s t = false ∧ (sumR S T).1 = (sumT s t).norm := by
  cases S with
  | none => simp [sumR] at h
  | some s =>
    cases T with
    | none => simp [sumR] at h
    | some t =>
      refine ⟨s, t, rfl, rfl, ?_⟩
      simp only [sumR] at h ⊢
      by_cases hb : bothT s t = true
      · rw [if_pos hb] at h; simp at h
      · rw [if_neg hb] at h ⊢
        refine ⟨by simpa using hb, ?_⟩
        split
        · rfl
        · rename_i h2; rw [if_neg h2] at h; simp at h
theorem same_self {S : Tr} (h : fit S = some S) : sameO (fit S) (fit S) = true := by
  rw [h]
  show sameB S S = true
  rw [sameB_norm, eqT_refl]
theorem three_eq {A B C : Option Tr} (h1 : (sumR A B).2 = 0) (h2 : (sumR B C).2 = 0) : sumR A (fit (sumR B C).1) = sumR (fit (sumR A B).1) C := by
  rw [sumR_fit, sumR_fit]
  obtain ⟨a, b, rfl, rfl, k1, e1⟩ := sumR_ok h1
  obtain ⟨b', c, hb, rfl, k2, e2⟩ := sumR_ok h2
  injection hb with hb
  subst hb
  rw [e1, e2]
  have m1 : bothT (sumT a b).norm c = bothT a c := by rw [both_norm_l, both_sum, k2, Bool.or_false]
  have m2 : bothT a (sumT b c).norm = bothT a c := by rw [both_norm_r, both_comm, both_sum, both_comm b a, k1, Bool.false_or, both_comm]
  simp only [sumR, m1, m2, sum_assoc]

set_option maxRecDepth 100000 in
set_option maxHeartbeats 6400000 in
theorem three_walk (TA : Option Tr) (a : Value) (TB : Option Tr) (b : Value) (TC : Option Tr) (c : Value) (w : World) (ha : Arg w TA a) (hb : Arg w TB b) (hc : Arg w TC c) : Calls Try.prog 11 #[a, b, c] w fun e w' => e = .returned (.bool true) ∧ Below w.heap.size w w' := by
  obtain ⟨o1, A1, n1, c1, rfl⟩ := ha.form
  obtain ⟨o2, A2, n2, c2, rfl⟩ := hb.form
  obtain ⟨o3, A3, n3, c3, rfl⟩ := hc.form
  have HX := Lib.hid ((((XS.begin w).boxed (.bool o1) (.slice A1 n1 c1)).boxed (.bool o2) (.slice A2 n2 c2)).boxed (.bool o3) (.slice A3 n3 c3))
  simp only [List.nil_append, List.cons_append, World.size_alloc] at HX
  have HA := Lib.hid ha
  have HB := Lib.hid hb
  have HC := Lib.hid hc
  clear ha hb hc
  unfold tv
  go_enter Try.func11, Try.ntmps11
  go_wp2_with fail
  refine (shown_any _).mono ?_
  rintro e w1 ⟨rfl, hb1⟩
  have HX1 := Lib.hid (HX.out.next hb1)
  clear hb1 HX
  have f := HX1.out.at0
  simp only [List.mem_cons, List.not_mem_nil, or_false, forall_eq_or_imp, forall_eq] at f
  obtain ⟨⟨p0, q0, _⟩, ⟨p1, q1, _⟩, p2, q2, _⟩ := f
  have hcall := sum_arg (HA.out.up HX1.out.bel) (HB.out.up HX1.out.bel)
  unfold tv at hcall
  go_wp2_with fail
  refine hcall.mono ?_
  rintro e w11 ⟨v11, rfl, h11, hb11⟩
  obtain ⟨o11, A11, n11, c11, rfl⟩ := h11.form
  have HX2 := Lib.hid ((HX1.out.next hb11).boxed (.bool o11) (.slice A11 n11 c11))
  simp only [List.nil_append, List.cons_append] at HX2
  have hd11 : Below w11.heap.size w11 (w11.alloc (.cells #[.bool o11, .slice A11 n11 c11] 24)) := (Below.refl _ w11).alloc (Nat.le_refl _) _
  have T11 := Lib.hid (h11.up hd11)
  clear hcall HX1 p0 q0 p1 q1 p2 q2 h11 hb11 hd11
  unfold tv
  have f := HX2.out.at0
  simp only [List.mem_cons, List.not_mem_nil, or_false, forall_eq_or_imp, forall_eq] at f
  obtain ⟨⟨p0, q0, _⟩, ⟨p1, q1, _⟩, ⟨p2, q2, _⟩, p3, q3, _⟩ := f
  have hcall := sum_arg (HB.out.up HX2.out.bel) (HC.out.up HX2.out.bel)
  unfold tv at hcall
  go_wp2_with fail
  refine hcall.mono ?_
  rintro e w12 ⟨v12, rfl, h12, hb12⟩
  obtain ⟨o12, A12, n12, c12, rfl⟩ := h12.form
  have HX3 := Lib.hid ((HX2.out.next hb12).boxed (.bool o12) (.slice A12 n12 c12))
  simp only [List.nil_append, List.cons_append] at HX3
  have hd12 : Below w12.heap.size w12 (w12.alloc (.cells #[.bool o12, .slice A12 n12 c12] 24)) := (Below.refl _ w12).alloc (Nat.le_refl _) _
  have T12 := Lib.hid (h12.up hd12)
  have KT11 := Lib.hid ((T11.out.up hb12).up hd12)
  clear T11
  have T11 := Lib.hid KT11.out
  clear KT11
  clear hcall HX2 p0 q0 p1 q1 p2 q2 p3 q3 h12 hb12 hd12
  unfold tv
  have f := HX3.out.at0
  simp only [List.mem_cons, List.not_mem_nil, or_false, forall_eq_or_imp, forall_eq] at f
  obtain ⟨⟨p0, q0, _⟩, ⟨p1, q1, _⟩, ⟨p2, q2, _⟩, ⟨p3, q3, _⟩, p4, q4, _⟩ := f
  have hcall := sum_arg (HB.out.up HX3.out.bel) (HA.out.up HX3.out.bel)
  rw [sumR_comm TB TA] at hcall
  unfold tv at hcall
  go_wp2_with fail
  refine hcall.mono ?_
  rintro e w13 ⟨v13, rfl, h13, hb13⟩
  obtain ⟨o13, A13, n13, c13, rfl⟩ := h13.form
  have HX4 := Lib.hid ((HX3.out.next hb13).boxed (.bool o13) (.slice A13 n13 c13))
  simp only [List.nil_append, List.cons_append] at HX4
  have hd13 : Below w13.heap.size w13 (w13.alloc (.cells #[.bool o13, .slice A13 n13 c13] 24)) := (Below.refl _ w13).alloc (Nat.le_refl _) _
  have T13 := Lib.hid (h13.up hd13)
  have KT11 := Lib.hid ((T11.out.up hb13).up hd13)
  have KT12 := Lib.hid ((T12.out.up hb13).up hd13)
  clear T11 T12
  have T11 := Lib.hid KT11.out
  have T12 := Lib.hid KT12.out
  clear KT11 KT12
  clear hcall HX3 p0 q0 p1 q1 p2 q2 p3 q3 p4 q4 h13 hb13 hd13
  unfold tv
  have hcs := same_arg (arg_of T11.out) (arg_of T13.out)
  rw [same_self (sumR_fit TA TB)] at hcs
  unfold tv at hcs
  have f := HX4.out.at0
  simp only [List.mem_cons, List.not_mem_nil, or_false, forall_eq_or_imp, forall_eq] at f
  obtain ⟨⟨p0, q0, _⟩, ⟨p1, q1, _⟩, ⟨p2, q2, _⟩, ⟨p3, q3, _⟩, ⟨p4, q4, _⟩, p5, q5, _⟩ := f
  have HR1 : Hid ((sumR TA TB).2 = 0 → (sumR TB TC).2 = 0 → sumR TA (fit (sumR TB TC).1) = sumR (fit (sumR TA TB).1) TC) := three_eq
  have hz1 := sumR_two TA TB
  have hz2 := sumR_two TB TC
  obtain ⟨z1, hq1⟩ : ∃ z, (sumR TA TB).2 = z := ⟨_, rfl⟩
  obtain ⟨z2, hq2⟩ : ∃ z, (sumR TB TC).2 = z := ⟨_, rfl⟩
  rw [hq1] at hz1 HR1 ⊢
  rw [hq2] at hz2 HR1 ⊢
  clear hq1 hq2
  go_wp2_with fail
  refine hcs.mono ?_
  rintro e w5 ⟨rfl, hb5⟩
  have HX5 := Lib.hid (HX4.out.next hb5)
  have K11 := Lib.hid (T11.out.up hb5)
  have K12 := Lib.hid (T12.out.up hb5)
  clear hb5 HX4 p0 q0 p1 q1 p2 q2 p3 q3 p4 q4 p5 q5 hcs T11 T12 T13
  rcases hz1 with rfl | rfl | rfl
  · rcases hz2 with rfl | rfl | rfl
    · have HR2 := Lib.hid (HR1.out rfl rfl)
      clear HR1
      have f := HX5.out.at0
      simp only [List.mem_cons, List.not_mem_nil, or_false, forall_eq_or_imp, forall_eq] at f
      obtain ⟨⟨p0, q0, _⟩, ⟨p1, q1, _⟩, ⟨p2, q2, _⟩, ⟨p3, q3, _⟩, ⟨p4, q4, _⟩, p5, q5, _⟩ := f
      have hcall := sum_arg (arg_of K11.out) (HC.out.up HX5.out.bel)
      unfold tv at hcall
      go_wp2_with fail
      refine hcall.mono ?_
      rintro e w14 ⟨v14, rfl, h14, hb14⟩
      obtain ⟨o14, A14, n14, c14, rfl⟩ := h14.form
      have HX6 := Lib.hid ((HX5.out.next hb14).boxed (.bool o14) (.slice A14 n14 c14))
      simp only [List.nil_append, List.cons_append] at HX6
      have hd14 : Below w14.heap.size w14 (w14.alloc (.cells #[.bool o14, .slice A14 n14 c14] 24)) := (Below.refl _ w14).alloc (Nat.le_refl _) _
      have T14 := Lib.hid (h14.up hd14)
      have KK12 := Lib.hid ((K12.out.up hb14).up hd14)
      clear K12
      have K12 := Lib.hid KK12.out
      clear KK12
      clear hcall HX5 p0 q0 p1 q1 p2 q2 p3 q3 p4 q4 p5 q5 h14 hb14 hd14
      unfold tv
      have f := HX6.out.at0
      simp only [List.mem_cons, List.not_mem_nil, or_false, forall_eq_or_imp, forall_eq] at f
      obtain ⟨⟨p0, q0, _⟩, ⟨p1, q1, _⟩, ⟨p2, q2, _⟩, ⟨p3, q3, _⟩, ⟨p4, q4, _⟩, ⟨p5, q5, _⟩, p6, q6, _⟩ := f
      have hcall := sum_arg (HA.out.up HX6.out.bel) (arg_of K12.out)
      rw [HR2.out] at hcall
      unfold tv at hcall
      go_wp2_with fail
      refine hcall.mono ?_
      rintro e w15 ⟨v15, rfl, h15, hb15⟩
      obtain ⟨o15, A15, n15, c15, rfl⟩ := h15.form
      have HX7 := Lib.hid ((HX6.out.next hb15).boxed (.bool o15) (.slice A15 n15 c15))
      simp only [List.nil_append, List.cons_append] at HX7
      have hd15 : Below w15.heap.size w15 (w15.alloc (.cells #[.bool o15, .slice A15 n15 c15] 24)) := (Below.refl _ w15).alloc (Nat.le_refl _) _
      have T15 := Lib.hid (h15.up hd15)
      have KT14 := Lib.hid ((T14.out.up hb15).up hd15)
      clear T14
      have T14 := Lib.hid KT14.out
      clear KT14
      clear hcall HX6 p0 q0 p1 q1 p2 q2 p3 q3 p4 q4 p5 q5 p6 q6 h15 hb15 hd15
      unfold tv
      obtain ⟨r, hr⟩ : ∃ r, sumR (fit (sumR TA TB).1) TC = r := ⟨_, rfl⟩
      have hz := sumR_two (fit (sumR TA TB).1) TC
      have hce := equal_any _ _ _ _ _ T14.out T15.out
      rw [eqT_refl] at hce
      rw [hr] at hz ⊢
      unfold tv at hce
      clear T14 T15 hr HR2
      obtain ⟨r1, z⟩ := r
      simp only at hz
      have f := HX7.out.at0
      simp only [List.mem_cons, List.not_mem_nil, or_false, forall_eq_or_imp, forall_eq] at f
      obtain ⟨⟨p0, q0, _⟩, ⟨p1, q1, _⟩, ⟨p2, q2, _⟩, ⟨p3, q3, _⟩, ⟨p4, q4, _⟩, ⟨p5, q5, _⟩, ⟨p6, q6, _⟩, p7, q7, _⟩ := f
      rcases hz with rfl | rfl | rfl
      · go_wp2_with fail
        refine hce.mono ?_
        rintro e w6 ⟨rfl, hb6⟩
        have HX8 := Lib.hid (HX7.out.next hb6)
        clear hb6 HX7 p0 q0 p1 q1 p2 q2 p3 q3 p4 q4 p5 q5 p6 q6 p7 q7 hce
        go_wp2
        go_ret
        exact ⟨rfl, HX8.out.bel⟩
      · clear hce
        go_wp2
        go_ret
        exact ⟨rfl, HX7.out.bel⟩
      · go_wp2_with fail
        refine hce.mono ?_
        rintro e w6 ⟨rfl, hb6⟩
        have HX8 := Lib.hid (HX7.out.next hb6)
        clear hb6 HX7 p0 q0 p1 q1 p2 q2 p3 q3 p4 q4 p5 q5 p6 q6 p7 q7 hce
        go_wp2
        go_ret
        exact ⟨rfl, HX8.out.bel⟩
    · clear HR1
      go_wp2
      go_ret
      exact ⟨rfl, HX5.out.bel⟩
    · clear HR1
      go_wp2
      go_ret
      exact ⟨rfl, HX5.out.bel⟩
  · clear HR1 hz2
    go_wp2
    go_ret
    exact ⟨rfl, HX5.out.bel⟩
  · clear HR1 hz2
    go_wp2
    go_ret
    exact ⟨rfl, HX5.out.bel⟩
end Go.Proofs.Ytkpefelakhbkhaa.I
