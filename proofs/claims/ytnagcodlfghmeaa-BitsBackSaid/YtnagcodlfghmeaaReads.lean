/-
  BitsReads: the walk of the law.
-/
import Derived.Test.YtnagcodlfghmeaaOpen
import Derived.Test.YtnagcodlfghmeaaTakeOwn
namespace Go.Proofs.Ytnagcodlfghmeaa.bitsReads
open Go.RowKit

set_option maxRecDepth 100000 in
set_option maxHeartbeats 1000000 in
theorem walk (A : Option Addr) (c : Nat) (l : List Nat) (n a : Int) (w : World) (hr : Row w w.heap.size A l) (hl : l.length ≤ 140737488351232) (hn : -9223372036854775808 ≤ n ∧ n ≤ 9223372036854775807) (_ha : -9223372036854775808 ≤ a ∧ a ≤ 9223372036854775807) :
    Calls Try.prog 6 #[.slice A l.length c, .int .i64 n, .int .i64 a] w fun e w' => e = .returned (.bool true) ∧ Below w.heap.size w w' := by
  have HR := Lib.hid hr; clear hr
  have HN := Lib.hid hn; clear hn
  have HL := Lib.hid hl; clear hl
  clear _ha
  go_enter Try.func6, Try.ntmps6
  go_wp2_with fail
  refine (shown_any _).mono ?_
  rintro e w1 ⟨rfl, hb1⟩
  go_wp2_with fail
  have hr1 := (HR.out.below hb1).more hb1.size
  refine (takeOwn_any _ _ l _ _ _ hr1 (by have := HL.out; omega) (by have := HN.out; omega) (by have := HN.out; omega)).mono ?_
  rintro e w2 ⟨rfl, hb2⟩
  have hr2 := (hr1.below hb2).more hb2.size
  generalize hx : (M.ownV l n a).1 = x at *
  generalize hy : (M.ownV l n a).2.1 = y at *
  generalize hz : (M.ownV l n a).2.2 = z at *
  have HX := Lib.hid hx; clear hx
  have HY := Lib.hid hy; clear hy
  have HZ := Lib.hid hz; clear hz
  have HB : Hid (Below w.heap.size w w2) := hb1.trans (hb2.mono hb1.size)
  clear hb1 hb2 hr1
  have hr3 := Lib.hid hr2; clear hr2
  go_wp2_with fail
  refine (rTakeOwn_any _ _ l _ _ _ hr3.out (by have := HL.out; omega) (by have := HN.out; omega) (by have := HN.out; omega)).mono ?_
  rintro e w3 ⟨rfl, hb3⟩
  rw [HX.out, HY.out, HZ.out]
  have HB3 : Hid (Below w.heap.size w w3) := HB.out.trans (hb3.mono HB.out.size)
  clear hb3
  go_wp2
  go_ret
  exact ⟨ret_bool (by simp), HB3.out⟩
end Go.Proofs.Ytnagcodlfghmeaa.bitsReads
