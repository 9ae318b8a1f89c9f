/-
  shown: two small vectors.
-/
import Derived.Test.YtadcmljcbmfcaaaVMeet
namespace Go.Proofs.Ytadcmljcbmfcaaa.V
open Go.RowKit
set_option linter.unusedVariables false
set_option linter.unusedSimpArgs false

def vA : List D := [(⟨#[97]⟩, 2)]
def vB : List D := [(⟨#[97]⟩, 1), (⟨#[98]⟩, 3)]
theorem shown_join : joinO vA vB = ([(⟨#[97]⟩, 2), (⟨#[98]⟩, 3)], 0) := by decide +kernel
theorem shown_meet (A A2 : Option Addr) (c c2 : Nat) : meetO [⟨A, c, vA⟩, ⟨A2, c2, vB⟩] = ([(⟨#[97]⟩, 1)], 0) := by
  have h1 : allR [⟨A, c, vA⟩, ⟨A2, c2, vB⟩] = true := by
    show (rightB vA && (rightB vB && true)) = true
    decide +kernel
  have h2 : meetL (meetL vA vA) vB = [(⟨#[97]⟩, 1)] := by decide +kernel
  show (if allR [⟨A, c, vA⟩, ⟨A2, c2, vB⟩] = true then (meetL (meetL vA vA) vB, 0) else ([], 2)) = _
  rw [if_pos h1, h2]
theorem shown_has : hasB [(⟨#[97]⟩, 2), (⟨#[98]⟩, 3)] (⟨#[98]⟩, 2) = true := by decide +kernel
theorem okA (w : World) : Vc.ok ⟨some ⟨w.heap.size, 0, none⟩, 1, vA⟩ (w.alloc (.cells #[.string ⟨#[97]⟩, .int .i64 2] 24)) (w.alloc (.cells #[.string ⟨#[97]⟩, .int .i64 2] 24)).heap.size := one_ok w ⟨#[97]⟩ 2
theorem okB (w : World) : Vc.ok ⟨some ⟨w.heap.size, 0, none⟩, 2, vB⟩ (w.alloc (.cells #[.string ⟨#[97]⟩, .int .i64 1, .string ⟨#[98]⟩, .int .i64 3] 24)) (w.alloc (.cells #[.string ⟨#[97]⟩, .int .i64 1, .string ⟨#[98]⟩, .int .i64 3] 24)).heap.size := by
  refine ⟨fun _ => ⟨w.heap.size, 0, rfl, by simp, fun j d hj => ?_⟩, by simp [vB], by show 2 ≤ _; omega, by simp [vB]⟩
  match j, hj with
  | 0, hj => simp [vB] at hj; subst hj; exact ⟨by simp [go_sem], by simp [go_sem]⟩
  | 1, hj => simp [vB] at hj; subst hj; exact ⟨by simp [go_sem], by simp [go_sem]⟩

set_option maxRecDepth 100000 in
set_option maxHeartbeats 3200000 in
theorem shown_any (w : World) : Calls Try.prog 12 #[] w fun e w' => e = .returned (.bool true) ∧ Below w.heap.size w w' := by
  obtain ⟨W1, hW1⟩ : ∃ W1, w.alloc (.cells #[.string ⟨#[97]⟩, .int .i64 2] 24) = W1 := ⟨_, rfl⟩
  obtain ⟨W2, hW2⟩ : ∃ W2, W1.alloc (.cells #[.string ⟨#[97]⟩, .int .i64 1, .string ⟨#[98]⟩, .int .i64 3] 24) = W2 := ⟨_, rfl⟩
  have hs1 : W1.heap.size = w.heap.size + 1 := by rw [← hW1]; simp
  have b1 : Below w.heap.size w W1 := by rw [← hW1]; exact (Below.refl _ w).alloc (Nat.le_refl _) _
  have b2 : Below W1.heap.size W1 W2 := by rw [← hW2]; exact (Below.refl _ W1).alloc (Nat.le_refl _) _
  have oa1 := okA w
  rw [hW1] at oa1
  have oa := oa1.up b2
  have ob := okB W1
  rw [hW2] at ob
  rw [hs1] at ob
  have hj := join_any oa ob
  rw [show joinO (Vc.mk (some ⟨w.heap.size, 0, none⟩) 1 vA).l (Vc.mk (some ⟨w.heap.size + 1, 0, none⟩) 2 vB).l = ([(⟨#[97]⟩, 2), (⟨#[98]⟩, 3)], 0) from shown_join] at hj
  have HJ := Lib.hid hj
  have HO := Lib.hid (And.intro oa ob)
  have HW := Lib.hid (And.intro hW1 hW2)
  have HB2 := Lib.hid (b1.trans (b2.mono b1.size))
  clear hj oa ob oa1 b1 b2 hW1 hW2
  go_enter Try.func12, Try.ntmps12
  go_wp2_with fail
  rw [HW.out.1, HW.out.2]
  refine HJ.out.mono ?_
  rintro e w3 ⟨⟨A3, c3, rfl, ok3⟩, hb3⟩
  have HB3 := Lib.hid hb3
  have OK3 := Lib.hid ok3
  have hm := meet_any (A := some ⟨w3.heap.size, 0, none⟩) 2 (rowL_two (HO.out.1.up hb3) (HO.out.2.up hb3)) (by simp)
  rw [shown_meet] at hm
  simp only [Vc.v, vA, vB, List.length_cons, List.length_nil, Nat.zero_add, Nat.reduceAdd] at hm
  have HM := Lib.hid hm
  clear hm HJ hb3 ok3
  simp only [List.length_cons, List.length_nil, Nat.zero_add, Nat.reduceAdd]
  go_wp2_with fail
  refine HM.out.mono ?_
  rintro e w4 ⟨⟨A4, c4, rfl, ok4⟩, hb4⟩
  have hbm : Below w3.heap.size w3 w4 := ((Below.refl _ w3).alloc (Nat.le_refl _) _).trans (hb4.mono (by simp))
  have OK3' := Lib.hid (OK3.out.up hbm)
  have HB4 := Lib.hid (HB2.out.trans (HB3.out.trans (hbm.mono HB3.out.size) |>.mono HB2.out.size))
  obtain ⟨b, off, e3, hb, c0, c1⟩ := OK3'.out.1.at 0 (by simp)
  obtain ⟨b', off', e3', hb', d0, d1⟩ := OK3'.out.1.at 1 (by simp)
  rw [e3] at e3'
  injection e3' with e3'
  injection e3' with q1 q2
  subst q1; subst q2
  simp only at e3
  subst e3
  obtain ⟨g, og, e4, hg, f0, f1⟩ := ok4.1.at 0 (by simp)
  simp only at e4
  subst e4
  have hh := has_any c3 ⟨#[98]⟩ 2 OK3'.out.1 (by simp)
  rw [shown_has] at hh
  simp only [List.length_cons, List.length_nil, Nat.zero_add, Nat.reduceAdd] at hh
  have HH := Lib.hid hh
  simp only [List.getElem_cons_zero, List.getElem_cons_succ, Nat.zero_mul, Nat.add_zero, Nat.one_mul] at c0 c1 d0 d1 f0 f1
  clear HM hbm hb4 ok4 hh
  simp only [List.length_cons, List.length_nil, Nat.zero_add, Nat.reduceAdd]
  go_wp2_with fail
  refine HH.out.mono ?_
  rintro e w5 ⟨rfl, hb5⟩
  have HB5 := Lib.hid (HB4.out.trans (hb5.mono HB4.out.size))
  clear HH hb5 c0 c1 d0 d1 f0 f1
  go_wp2
  go_ret
  exact ⟨rfl, HB5.out⟩
end Go.Proofs.Ytadcmljcbmfcaaa.V
