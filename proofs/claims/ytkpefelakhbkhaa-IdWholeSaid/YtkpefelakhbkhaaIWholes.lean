/-
  IdWhole: the walk of the law.
-/
import Derived.Test.YtkpefelakhbkhaaIRWhole
import Derived.Test.YtkpefelakhbkhaaIShown
namespace Go.Proofs.Ytkpefelakhbkhaa.I
open Go.RowKit

set_option maxRecDepth 100000 in
set_option maxHeartbeats 1600000 in
theorem whole_two (A : Option Addr) (c m : Nat) (l : List El) (Ts : List (Option Tr)) (w : World) (hr : RowE w w.heap.size A l) (ha : ArgL w l Ts) (hm : l.length = m) (hc : m ≤ c) (hbig : m ≤ 140737488351232) (n : Nat) (_hn : n ≤ c) (hn2 : n ≤ 140737488351232) (hmin : (if (70 : Int) < (n : Int) then (70 : Int) else (n : Int)) = (m : Int)) :
    Calls Try.prog 5 #[.slice A n c] w fun e w' => e = .returned (.bool true) ∧ Below w.heap.size w w' := by
  have HR := Lib.hid hr
  have HA := Lib.hid ha
  have hmn : m ≤ n := by split at hmin <;> omega
  have h1 := fun W (h : Below w.heap.size w W) => whole_any A c l Ts W (HR.out.up h) (HA.out.up h) (by omega) (by omega)
  have h2 := fun W (h : Below w.heap.size w W) => rwhole_any A c l Ts W (HR.out.up h) (HA.out.up h) (by omega)
  rw [hm] at h1 h2
  have HM := Lib.hid hm
  clear hr ha hm
  go_enter Try.func5, Try.ntmps5
  go_wp2_with fail
  refine (shown_any _).mono ?_
  rintro e w1 ⟨rfl, hb1⟩
  have HB1 := Lib.hid hb1
  clear hb1
  go_wp2_with fail
  refine (h1 w1 HB1.out).mono ?_
  rintro e w2 ⟨q1, rfl, hq1, hb2⟩
  have HB2 : Hid (Below w.heap.size w w2) := HB1.out.trans (hb2.mono HB1.out.size)
  have HQ1 := Lib.hid hq1
  clear hb2 hq1 h1 HB1
  go_wp2_with fail
  refine (h2 w2 HB2.out).mono ?_
  rintro e w3 ⟨q2, rfl, hq2, hb3⟩
  have HB3 : Hid (Below w.heap.size w w3) := HB2.out.trans (hb3.mono HB2.out.size)
  have heq : q1 = q2 := by
    have := HQ1.out
    rw [Bool.eq_iff_iff, this, hq2]
  subst heq
  clear hb3 hq2 h2 HB2 HQ1
  go_wp2
  go_ret
  exact ⟨ret_bool (by simp), HB3.out⟩
theorem whole_walk (A : Option Addr) (c : Nat) (f : Fo) (w : World) (hk : Kd w w.heap.size f A) (reach : f.len ≤ 140737488351232) (lc : f.len ≤ c) : Calls Try.prog 5 #[.slice A f.len c] w fun e w' => e = .returned (.bool true) ∧ Below w.heap.size w w' := by
  obtain ⟨l, Ts, hl, hr, ha⟩ := list_row hk
  refine whole_two A c (min 70 f.len) (l.take 70) (Ts.take 70) w (hr.take 70) (ha.take 70) (by rw [List.length_take, hl]) (by omega) (by omega) f.len lc reach ?_
  split <;> omega
end Go.Proofs.Ytkpefelakhbkhaa.I
