/-
  VectorWith: the walk of the law.
-/
import Derived.Test.YtadcmljcbmfcaaaVRLack
namespace Go.Proofs.Ytadcmljcbmfcaaa.vectorWith
open Go.RowKit Go.Proofs.Ytadcmljcbmfcaaa.V
set_option linter.unusedVariables false
set_option linter.unusedSimpArgs false

set_option maxRecDepth 100000 in
set_option maxHeartbeats 3200000 in
theorem walk (x : Vc) (s : ByteArray) (n : Int) (w : World) (hx : x.ok w w.heap.size) (hfit : Fit x.l) (hs : s.size ≤ 9223372036854775807) : Calls Try.prog 4 #[.slice x.A x.l.length x.c, .agg #[.string s, .int .i64 n]] w fun e w' => e = .returned (.bool true) ∧ Below w.heap.size w w' := by
  obtain ⟨A, c, l⟩ := x
  simp only at *
  have hb1 : Below w.heap.size w (w.alloc (.cells #[.string s, .int .i64 n] 24)) := (Below.refl _ w).alloc (Nat.le_refl _) _
  have ht1 : Two (w.alloc (.cells #[.string s, .int .i64 n] 24)) w.heap.size (.string s) (.int .i64 n) := Two.new w _ _
  obtain ⟨L, hL⟩ : ∃ L, l.length = L := ⟨_, rfl⟩
  have HN := Lib.hid hL.symm
  obtain ⟨O, hO⟩ : ∃ O, withO l (s, n) = O := ⟨_, rfl⟩
  have HO := Lib.hid hO
  have HFit := Lib.hid (And.intro hfit hs)
  rw [hL]
  obtain ⟨W1, hW1⟩ : ∃ W1, w.alloc (.cells #[.string s, .int .i64 n] 24) = W1 := ⟨_, rfl⟩
  have HWE := Lib.hid hW1
  rw [hW1] at hb1 ht1
  have HRow : Hid (∀ W, Below W1.heap.size W1 W → Vc.ok ⟨A, c, l⟩ W W.heap.size) := fun W hW => (hx.up hb1).up hW
  have HC : Hid (∀ W, Below W1.heap.size W1 W → W.cell? ⟨w.heap.size, 0, none⟩ = some (.string s) ∧ W.cell? ⟨w.heap.size, 1, none⟩ = some (.int .i64 n)) := fun W hW => ⟨(ht1.below hW ht1.lt).c0, (ht1.below hW ht1.lt).c1⟩
  have HW1 : Hid (∀ W, Below W1.heap.size W1 W → Below w.heap.size w W) := fun W hW => hb1.trans (hW.mono hb1.size)
  clear hO hfit hs hx hL hW1 hb1 ht1
  go_enter Try.func4, Try.ntmps4
  go_wp2_with fail
  rw [HWE.out]
  refine (shown_any _).mono ?_
  rintro e w2 ⟨rfl, hb2⟩
  have H2 := Lib.hid hb2
  obtain ⟨c0, c1⟩ := HC.out _ hb2
  clear hb2
  go_wp2_with fail
  rw [HN.out]
  refine (with_any s n (HRow.out _ H2.out)).mono ?_
  rintro e w3 ⟨⟨A3, c3, rfl, ok3⟩, hb3⟩
  rw [HO.out] at ok3 ⊢
  obtain ⟨r, z⟩ := O
  simp only at ok3 ⊢
  have H3 := Lib.hid (H2.out.trans (hb3.mono H2.out.size))
  have OK3 := Lib.hid ok3
  obtain ⟨rn, hrn⟩ : ∃ k, r.length = k := ⟨_, rfl⟩
  rw [hrn]
  have HRN := Lib.hid hrn
  clear hb3 ok3 c0 c1 hrn
  obtain ⟨c0, c1⟩ := HC.out _ H3.out
  go_wp2_with fail
  refine (rwith_any s n (HRow.out _ H3.out) HFit.out.1 HFit.out.2).mono ?_
  rintro e w4 ⟨⟨A4, c4, rfl, ok4⟩, hb4⟩
  rw [HO.out] at ok4 ⊢
  simp only at ok4 ⊢
  have H4 := Lib.hid (H3.out.trans (hb4.mono H3.out.size))
  have OK3' := Lib.hid (OK3.out.up hb4)
  have OK4 := Lib.hid ok4
  rw [HRN.out]
  have hzz : (z == z) = true := by simp
  have hsame := same_any c3 c4 OK3'.out.1 OK3'.out.2.2.2 OK4.out.1 OK4.out.2.2.2
  simp only [HRN.out, decide_true] at hsame
  have HSame := Lib.hid hsame
  clear hb4 ok4 c0 c1 hsame
  go_wp2_with fail
  refine HSame.out.mono ?_
  rintro e w5 ⟨rfl, hb5⟩
  have H5 := Lib.hid (H4.out.trans (hb5.mono H4.out.size))
  clear hb5 HSame
  go_wp2
  go_ret
  exact ⟨rfl, HW1.out _ H5.out⟩
end Go.Proofs.Ytadcmljcbmfcaaa.vectorWith
