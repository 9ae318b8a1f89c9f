/-
  shown: all is split into two halves.
-/
import Derived.Test.YtkpefelakhbkhaaIOps
import Derived.Test.YtkpefelakhbkhaaILayText
namespace Go.Proofs.Ytkpefelakhbkhaa.I
open Go.RowKit

theorem showR_one : showR (fit (.node (.leaf true) (.leaf false))) = .tuple #[.string ⟨#[40, 49, 44, 48, 41]⟩, .int .i64 0] := rfl
theorem showR_two : showR (fit (.node (.leaf false) (.leaf true))) = .tuple #[.string ⟨#[40, 48, 44, 49, 41]⟩, .int .i64 0] := rfl
set_option maxRecDepth 100000 in
set_option maxHeartbeats 1600000 in
theorem shown_any (w : World) : Calls Try.prog 12 #[] w fun e w' => e = .returned (.bool true) ∧ Below w.heap.size w w' := by
  have h0 : Arg w (some (.leaf true)) (tv true none 0 0) := arg_of (t := .leaf true) ⟨none, 0, rfl⟩
  have hc : Calls Try.prog 15 #[tv true none 0 0] w (Ans2 ((.node (.leaf true) (.leaf false), .node (.leaf false) (.leaf true)), 0) w) := split_arg h0
  unfold tv at hc
  clear h0
  go_enter Try.func12, Try.ntmps12
  go_wp2_with fail
  refine hc.mono ?_
  rintro e w1 ⟨v1, v2, rfl, h1, h2, hb1⟩
  obtain ⟨o1, A1, n1, c1, rfl⟩ := h1.form
  obtain ⟨o2, A2, n2, c2, rfl⟩ := h2.form
  have hx1 := (XS.begin w).next hb1
  have HX := Lib.hid ((hx1.boxed (.bool o1) (.slice A1 n1 c1)).boxed (.bool o2) (.slice A2 n2 c2))
  simp only [List.nil_append, List.cons_append, World.size_alloc] at HX
  have hb2 : Below w1.heap.size w1 ((w1.alloc (.cells #[.bool o1, .slice A1 n1 c1] 24)).alloc (.cells #[.bool o2, .slice A2 n2 c2] 24)) := ((Below.refl _ w1).alloc (Nat.le_refl _) _).alloc (by simp) _
  have hs1 := show_arg (arg_of (h1.up hb2))
  have H2 := Lib.hid (h2.up hb2)
  rw [showR_one] at hs1
  clear hc hb1 hx1 hb2 h1 h2
  unfold tv at hs1 ⊢
  go_wp2_with fail
  refine hs1.mono ?_
  rintro e w3 ⟨rfl, hb3⟩
  have HX3 := Lib.hid (HX.out.next hb3)
  have f := HX3.out.at0
  simp only [List.mem_cons, List.not_mem_nil, or_false, forall_eq_or_imp, forall_eq] at f
  obtain ⟨⟨a0, a1, l1⟩, b0, b1, l2⟩ := f
  have hs2 := show_arg (arg_of (H2.out.up hb3))
  rw [showR_two] at hs2
  unfold tv at hs2
  clear hb3 HX hs1 H2
  go_wp2_with fail
  refine hs2.mono ?_
  rintro e w4 ⟨rfl, hb4⟩
  have HX4 := Lib.hid (HX3.out.next hb4)
  clear hb4 HX3 hs2 a0 a1 l1 b0 b1 l2
  go_wp2
  go_ret
  exact ⟨rfl, HX4.out.bel⟩
end Go.Proofs.Ytkpefelakhbkhaa.I
