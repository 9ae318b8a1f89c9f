/-
  shown: the law's first line; and the reference's PutOwn.
-/
import Derived.Test.YtnagcodlfghmeaaRefOps
namespace Go.Proofs.Ytnagcodlfghmeaa
open Go.RowKit

theorem put_shown1 (w : World) : Calls Try.prog 11 #[.slice none 0 0, .int .i64 0, .int .u64 5, .int .i64 3] w (Gives [160] 3 w) :=
  put_yes none 0 [] 0 5 3 w (Row.none_ _ _ _) (by decide) (by decide) (by decide) (by decide)
theorem put_shown2 (A : Option Addr) (c : Nat) (w : World) (hr : Row w w.heap.size A [160]) : Calls Try.prog 11 #[.slice A 1 c, .int .i64 3, .int .u64 1, .int .i64 2] w (Gives [168] 5 w) :=
  put_yes A c [160] 3 1 2 w hr (by decide) (by decide) (by decide) (by decide)
theorem right_shown (A : Option Addr) (c : Nat) (w : World) (hr : Row w w.heap.size A [168]) : Calls Try.prog 13 #[.slice A 1 c, .int .i64 5] w fun e w' => e = .returned (.bool true) ∧ w = w' :=
  right_any A c [168] 5 w _ hr (by decide) (by decide) (by decide)

set_option maxRecDepth 100000 in
set_option maxHeartbeats 1000000 in
theorem shown_any (w : World) : Calls Try.prog 10 #[] w fun e w' => e = .returned (.bool true) ∧ Below w.heap.size w w' := by
  have hstr : ((strB [168]).toList == [168]) = true := by simp [strB]
  go_enter Try.func10, Try.ntmps10
  go_wp2_with fail
  refine (put_shown1 _).mono ?_
  rintro e w1 ⟨A1, c1, rfl, hr1, hb1⟩
  have HR1 := Lib.hid hr1; clear hr1
  go_wp2_with fail
  refine (put_shown2 _ _ _ HR1.out).mono ?_
  rintro e w2 ⟨A2, c2, rfl, hr2, hb2⟩
  have hs := run_str A2 c2 [168] w2 _ hr2
  have HR2 := Lib.hid hr2; clear hr2
  have HB : Hid (Below w.heap.size w w2) := hb1.trans (hb2.mono hb1.size)
  clear hb1 hb2
  simp only [List.length_singleton] at hs
  go_wp2_with (go_at_call 13; refine (right_shown _ _ _ HR2.out).mono ?_; rintro e w' ⟨rfl, rfl⟩)
  go_ret
  exact ⟨rfl, HB.out⟩
end Go.Proofs.Ytnagcodlfghmeaa
