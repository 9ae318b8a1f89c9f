/-
  shown: a tree's normal form, a join.
-/
import Derived.Test.YtflghlmikpfnpaaDoorEShow
namespace Go.Proofs.YtflghlmikpfnpaaDoor.E
open Go.RowKit

theorem leaf_in (w : World) (n : Int) : InT w w.heap.size (.leaf n) (tv n none 0 0) := ⟨none, 0, rfl⟩
set_option maxRecDepth 100000 in
set_option maxHeartbeats 3200000 in
theorem shown_any (w : World) (htab : Tab w) : Calls Tryd.prog 11 #[] w fun e w' => e = .returned (.bool true) ∧ Below w.heap.size w w' := by
  have HTB := Lib.hid htab
  clear htab
  go_enter Tryd.func11, Tryd.ntmps11
  go_wp2_with fail
  refine (lleaf_any 2 w).mono ?_
  rintro e w1 ⟨rfl, hb1⟩
  have HB1 := Lib.hid hb1
  clear hb1
  go_wp2_with fail
  refine (lleaf_any 3 w1).mono ?_
  rintro e w2 ⟨rfl, hb2⟩
  have HB2 : Hid (Below w.heap.size w w2) := HB1.out.trans (hb2.mono HB1.out.size)
  clear hb2 HB1
  go_wp2_with fail
  refine (lleaf_any 1 w2).mono ?_
  rintro e w3 ⟨rfl, hb3⟩
  have HB3 : Hid (Below w.heap.size w w3) := HB2.out.trans (hb3.mono HB2.out.size)
  clear hb3 HB2
  have hc := lnode_any 0 (.leaf 3) (.leaf 1) _ _ w3 (leaf_in _ 3) (leaf_in _ 1)
  unfold tv at hc ⊢
  go_wp2_with fail
  refine hc.mono ?_
  rintro e w4 ⟨va, rfl, hva, hb4⟩
  obtain ⟨Ava, nva, cva, rfl⟩ := hva.form
  simp only [Tr.N] at hva ⊢
  have Hva := Lib.hid hva
  have HB4 : Hid (Below w.heap.size w w4) := HB3.out.trans (hb4.mono HB3.out.size)
  clear hc hb4 HB3 hva
  have hc := lnode_any 1 (.leaf 2) (.node 0 (.leaf 3) (.leaf 1)) _ _ w4 (leaf_in _ 2) Hva.out
  unfold tv at hc ⊢
  go_wp2_with fail
  refine hc.mono ?_
  rintro e w5 ⟨vb, rfl, hvb, hb5⟩
  obtain ⟨Avb, nvb, cvb, rfl⟩ := hvb.form
  simp only [Tr.N] at hvb ⊢
  have Hvb := Lib.hid hvb
  have HB5 : Hid (Below w.heap.size w w5) := HB4.out.trans (hb5.mono HB4.out.size)
  clear hc hb5 HB4 hvb
  have hc := show_arg (arg_of Hvb.out) (HTB.out.up HB5.out)
  have hc' : Calls Tryd.prog 25 #[tv 1 Avb nvb cvb] w5 fun e w' => e = .returned (.tuple #[.string ⟨#[40, 50, 44, 49, 44, 40, 48, 44, 50, 44, 48, 41, 41]⟩, .int .i64 0]) ∧ Below w5.heap.size w5 w' := by rw [← shA]; exact hc
  unfold tv at hc' ⊢
  clear hc Hvb Hva
  go_wp2_with fail
  refine hc'.mono ?_
  rintro e w6 ⟨rfl, hb6⟩
  have HB6 : Hid (Below w.heap.size w w6) := HB5.out.trans (hb6.mono HB5.out.size)
  clear hc' hb6 HB5
  go_wp2_with fail
  refine (lleaf_any 1 w6).mono ?_
  rintro e w7 ⟨rfl, hb7⟩
  have HB7 : Hid (Below w.heap.size w w7) := HB6.out.trans (hb7.mono HB6.out.size)
  clear hb7 HB6
  go_wp2_with fail
  refine (lleaf_any 0 w7).mono ?_
  rintro e w8 ⟨rfl, hb8⟩
  have HB8 : Hid (Below w.heap.size w w8) := HB7.out.trans (hb8.mono HB7.out.size)
  clear hb8 HB7
  have hc := lnode_any 0 (.leaf 1) (.leaf 0) _ _ w8 (leaf_in _ 1) (leaf_in _ 0)
  unfold tv at hc ⊢
  go_wp2_with fail
  refine hc.mono ?_
  rintro e w9 ⟨vc, rfl, hvc, hb9⟩
  obtain ⟨Avc, nvc, cvc, rfl⟩ := hvc.form
  simp only [Tr.N] at hvc ⊢
  have Hvc := Lib.hid hvc
  have HB9 : Hid (Below w.heap.size w w9) := HB8.out.trans (hb9.mono HB8.out.size)
  clear hc hb9 HB8 hvc
  have HVC9 := Lib.hid Hvc.out
  clear Hvc
  unfold tv
  go_wp2_with fail
  refine (lleaf_any 0 w9).mono ?_
  rintro e w10 ⟨rfl, hb10⟩
  have HB10 : Hid (Below w.heap.size w w10) := HB9.out.trans (hb10.mono HB9.out.size)
  have HVC10 := Lib.hid (HVC9.out.up hb10)
  clear hb10 HB9 HVC9
  unfold tv
  go_wp2_with fail
  refine (lleaf_any 2 w10).mono ?_
  rintro e w11 ⟨rfl, hb11⟩
  have HB11 : Hid (Below w.heap.size w w11) := HB10.out.trans (hb11.mono HB10.out.size)
  have HVC11 := Lib.hid (HVC10.out.up hb11)
  clear hb11 HB10 HVC10
  have hc := lnode_any 0 (.leaf 0) (.leaf 2) _ _ w11 (leaf_in _ 0) (leaf_in _ 2)
  unfold tv at hc ⊢
  go_wp2_with fail
  refine hc.mono ?_
  rintro e w12 ⟨vd, rfl, hvd, hb12⟩
  obtain ⟨Avd, nvd, cvd, rfl⟩ := hvd.form
  simp only [Tr.N] at hvd ⊢
  have Hvd := Lib.hid hvd
  have HB12 : Hid (Below w.heap.size w w12) := HB11.out.trans (hb12.mono HB11.out.size)
  have HVC12 := Lib.hid (HVC11.out.up hb12)
  clear HVC11
  clear hc hb12 HB11 hvd
  have hc := join_arg (arg_of HVC12.out) (arg_of Hvd.out)
  have hc' : Calls Tryd.prog 19 #[tv 0 Avc nvc cvc, tv 0 Avd nvd cvd] w12 (Ans (tD, 0) w12) := by rw [← joR]; exact hc
  unfold tv at hc' ⊢
  clear hc HVC12 Hvd
  go_wp2_with fail
  refine hc'.mono ?_
  rintro e w13 ⟨v13, rfl, h13, hb13⟩
  obtain ⟨A13, n13, c13, rfl⟩ := h13.form
  have hx13 := (XS.begin w).next HB12.out |>.next hb13
  have HX := Lib.hid (hx13.boxed (.int .i64 (tD, (0 : Int)).1.N) (.slice A13 n13 c13) 24)
  have hbx : Below w13.heap.size w13 (w13.alloc (.cells #[.int .i64 (tD, (0 : Int)).1.N, .slice A13 n13 c13] 24)) := (Below.refl _ w13).alloc (Nat.le_refl _) _
  have h14 := h13.old.up hbx
  simp only [List.nil_append, tD, Tr.N] at HX h14 ⊢
  have hc := show_arg (arg_of h14) (HTB.out.up HX.out.bel)
  have hc'' : Calls Tryd.prog 25 #[tv 1 A13 n13 c13] (w13.alloc (.cells #[.int .i64 1, .slice A13 n13 c13] 24)) fun e w' => e = .returned (.tuple #[.string ⟨#[40, 49, 44, 48, 44, 49, 41]⟩, .int .i64 0]) ∧ Below (w13.alloc (.cells #[.int .i64 1, .slice A13 n13 c13] 24)).heap.size (w13.alloc (.cells #[.int .i64 1, .slice A13 n13 c13] 24)) w' := by rw [← shD]; exact hc
  unfold tv at hc'' ⊢
  clear hc hc' h13 h14 hx13 hbx hb13 HB12
  go_wp2_with fail
  refine hc''.mono ?_
  rintro e w15 ⟨rfl, hb15⟩
  have HX2 := Lib.hid (HX.out.next hb15)
  clear hc'' hb15 HX
  go_wp2
  go_ret
  exact ⟨rfl, HX2.out.bel⟩
end Go.Proofs.YtflghlmikpfnpaaDoor.E
