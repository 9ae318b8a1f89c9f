/-
  IdTexts: the walk of the law.
-/
import Derived.Test.YtkpefelakhbkhaaIParse
import Derived.Test.YtkpefelakhbkhaaIShown
namespace Go.Proofs.Ytkpefelakhbkhaa.I
open Go.RowKit

theorem showR_form (T : Option Tr) : ∃ S z, showR T = .tuple #[.string S, .int .i64 z] := by
  cases T with
  | none => exact ⟨_, _, rfl⟩
  | some t => exact ⟨_, _, rfl⟩
set_option maxRecDepth 100000 in
set_option maxHeartbeats 3200000 in
theorem texts_walk (T : Option Tr) (v : Value) (s : ByteArray) (w : World) (hv : Arg w T v) (hs : s.size ≤ 140737488351232) : Calls Try.prog 6 #[v, .string s] w fun e w' => e = .returned (.bool true) ∧ Below w.heap.size w w' := by
  obtain ⟨o, A, n, c, rfl⟩ := hv.form
  have HX := Lib.hid ((XS.begin w).boxed (.bool o) (.slice A n c))
  simp only [List.nil_append] at HX
  have HV := Lib.hid hv
  obtain ⟨S, z, hS⟩ := showR_form T
  have hSS : (S.toList == S.toList) = true := by simp
  clear hv
  unfold tv
  go_enter Try.func6, Try.ntmps6
  go_wp2_with fail
  refine (shown_any _).mono ?_
  rintro e w1 ⟨rfl, hb1⟩
  have HX1 := Lib.hid (HX.out.next hb1)
  clear hb1 HX
  have f := HX1.out.at0
  simp only [List.mem_cons, List.not_mem_nil, or_false, forall_eq] at f
  obtain ⟨p0, q0, _⟩ := f
  have hc := show_arg (HV.out.up HX1.out.bel)
  rw [hS] at hc
  unfold tv at hc
  go_wp2_with fail
  refine hc.mono ?_
  rintro e w2 ⟨rfl, hb2⟩
  have HX2 := Lib.hid (HX1.out.next hb2)
  clear hb2 HX1 hc p0 q0
  have f := HX2.out.at0
  simp only [List.mem_cons, List.not_mem_nil, or_false, forall_eq] at f
  obtain ⟨p0, q0, _⟩ := f
  have hc := rshow_arg (HV.out.up HX2.out.bel)
  rw [hS] at hc
  unfold tv at hc
  clear hS
  go_wp2_with fail
  refine hc.mono ?_
  rintro e w3 ⟨rfl, hb3⟩
  have HX3 := Lib.hid (HX2.out.next hb3)
  clear hb3 HX2 hc p0 q0
  have f := HX3.out.at0
  simp only [List.mem_cons, List.not_mem_nil, or_false, forall_eq] at f
  obtain ⟨p0, q0, _⟩ := f
  have hcall := parse_any s w3 (by omega)
  unfold tv at hcall
  go_wp2_with fail
  refine hcall.mono ?_
  rintro e w11 ⟨v11, rfl, h11, hb11⟩
  obtain ⟨o11, A11, n11, c11, rfl⟩ := h11.form
  have HX4 := Lib.hid ((HX3.out.next hb11).boxed (.bool o11) (.slice A11 n11 c11))
  simp only [List.nil_append, List.cons_append] at HX4
  have hd11 : Below w11.heap.size w11 (w11.alloc (.cells #[.bool o11, .slice A11 n11 c11] 24)) := (Below.refl _ w11).alloc (Nat.le_refl _) _
  have T11 := Lib.hid (h11.up hd11)
  clear hcall HX3 p0 q0 h11 hb11 hd11
  unfold tv
  have f := HX4.out.at0
  simp only [List.mem_cons, List.not_mem_nil, or_false, forall_eq_or_imp, forall_eq] at f
  obtain ⟨⟨p0, q0, _⟩, p1, q1, _⟩ := f
  have hcall := rparse_any s (w11.alloc (.cells #[.bool o11, .slice A11 n11 c11] 24)) (by omega)
  unfold tv at hcall
  go_wp2_with fail
  refine hcall.mono ?_
  rintro e w12 ⟨v12, rfl, h12, hb12⟩
  obtain ⟨o12, A12, n12, c12, rfl⟩ := h12.form
  have HX5 := Lib.hid ((HX4.out.next hb12).boxed (.bool o12) (.slice A12 n12 c12))
  simp only [List.nil_append, List.cons_append] at HX5
  have hd12 : Below w12.heap.size w12 (w12.alloc (.cells #[.bool o12, .slice A12 n12 c12] 24)) := (Below.refl _ w12).alloc (Nat.le_refl _) _
  have T12 := Lib.hid (h12.up hd12)
  have KT11 := Lib.hid ((T11.out.up hb12).up hd12)
  clear T11
  have T11 := Lib.hid KT11.out
  clear KT11
  clear hcall HX4 p0 q0 p1 q1 h12 hb12 hd12
  unfold tv
  obtain ⟨r, hr⟩ : ∃ r, parseR (parseT s) = r := ⟨_, rfl⟩
  rw [hr] at T11 T12 ⊢
  obtain ⟨r1, z1⟩ := r
  simp only at T11 T12
  clear hr
  have hce := equal_any _ _ _ _ _ T11.out T12.out
  rw [eqT_refl] at hce
  unfold tv at hce
  have f := HX5.out.at0
  simp only [List.mem_cons, List.not_mem_nil, or_false, forall_eq_or_imp, forall_eq] at f
  obtain ⟨⟨p0, q0, _⟩, ⟨p1, q1, _⟩, p2, q2, _⟩ := f
  clear T11 T12
  go_wp2_with fail
  refine hce.mono ?_
  rintro e w6 ⟨rfl, hb6⟩
  have HX6 := Lib.hid (HX5.out.next hb6)
  clear hb6 HX5 p0 q0 p1 q1 p2 q2 hce
  go_wp2
  go_ret
  exact ⟨ret_bool (by simp), HX6.out.bel⟩
end Go.Proofs.Ytkpefelakhbkhaa.I
