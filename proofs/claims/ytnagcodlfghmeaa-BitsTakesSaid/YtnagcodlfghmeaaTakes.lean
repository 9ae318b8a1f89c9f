/-
  BitsTakes: the walk of the law.
-/
import Derived.Test.YtnagcodlfghmeaaOpen
namespace Go.Proofs.Ytnagcodlfghmeaa.bitsTakes
open Go.RowKit

set_option maxRecDepth 100000 in
set_option maxHeartbeats 1000000 in
theorem walk (A : Option Addr) (c : Nat) (l : List Nat) (n a m : Int) (w : World) (hr : Row w w.heap.size A l) (hl : l.length ≤ 140737488351232) (hn : -9223372036854775808 ≤ n ∧ n ≤ 9223372036854775807) (_ha : -9223372036854775808 ≤ a ∧ a ≤ 9223372036854775807) (_hm : -9223372036854775808 ≤ m ∧ m ≤ 9223372036854775807) :
    Calls Try.prog 4 #[.slice A l.length c, .int .i64 n, .int .i64 a, .int .i64 m] w fun e w' => e = .returned (.bool true) ∧ Below w.heap.size w w' := by
  have HR := Lib.hid hr; clear hr
  have HN := Lib.hid hn; clear hn
  have HL := Lib.hid hl; clear hl
  clear _ha _hm
  go_enter Try.func4, Try.ntmps4
  go_wp2_with fail
  refine (shown_any _).mono ?_
  rintro e w1 ⟨rfl, hb1⟩
  go_wp2_with fail
  have hr1 := (HR.out.below hb1).more hb1.size
  refine (take_any _ _ l _ _ _ _ hr1 (by have := HL.out; omega) (by have := HN.out; omega) (by have := HN.out; omega)).mono ?_
  rintro e w2 ⟨rfl, hb2⟩
  have hr2 := (hr1.below hb2).more hb2.size
  generalize hx : (takeV l n a m).1 = x at *
  generalize hy : (takeV l n a m).2 = y at *
  have HX := Lib.hid hx; clear hx
  have HY := Lib.hid hy; clear hy
  have HB : Hid (Below w.heap.size w w2) := hb1.trans (hb2.mono hb1.size)
  clear hb1 hb2 hr1
  have hr3 := Lib.hid hr2; clear hr2
  go_wp2_with fail
  refine (rTake_any _ _ l _ _ _ _ hr3.out (by have := HL.out; omega) (by have := HN.out; omega) (by have := HN.out; omega)).mono ?_
  rintro e w3 ⟨rfl, hb3⟩
  rw [HX.out, HY.out]
  have HB3 : Hid (Below w.heap.size w w3) := HB.out.trans (hb3.mono HB.out.size)
  clear hb3
  go_wp2
  go_ret
  exact ⟨ret_bool (by simp), HB3.out⟩
end Go.Proofs.Ytnagcodlfghmeaa.bitsTakes
