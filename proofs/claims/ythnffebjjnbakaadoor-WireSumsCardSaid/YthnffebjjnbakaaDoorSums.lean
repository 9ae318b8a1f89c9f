/-
  WireSums: the walk of the law.
-/
import Derived.Test.YthnffebjjnbakaaDoorGate
namespace Go.Proofs.YthnffebjjnbakaaDoor.wireSums
open Go.RowKit

set_option maxRecDepth 100000 in
set_option maxHeartbeats 1600000 in
theorem walk (A : Option Addr) (c : Nat) (l : List Nat) (w : World) (ht : Tab w) (hr : Row w w.heap.size A l) (hl : l.length ≤ 140737488351232) (hcap : l.length ≤ c) :
    Calls Tryd.prog 5 #[.slice A l.length c] w fun e w' => e = .returned (.bool true) ∧ Below w.heap.size w w' := by
  obtain ⟨h, hh⟩ : ∃ h, min l.length 100000 = h := ⟨_, rfl⟩
  have hmin : (if (100000 : Int) < (l.length : Int) then (100000 : Int) else (l.length : Int)) = (h : Int) := by rw [← hh]; split <;> omega
  have hhl : h ≤ l.length := by omega
  have hhc : h ≤ c := by omega
  have hr2 : Row w w.heap.size A (l.take h) := by
    refine ⟨fun x hx => hr.1 x (List.mem_of_mem_take hx), fun hn => ?_⟩
    rw [List.length_take] at hn
    obtain ⟨b, off, e, hb, hc⟩ := hr.2 (by omega)
    refine ⟨b, off, e, hb, fun j hj => ?_⟩
    rw [List.length_take] at hj
    rw [hc j (by omega), List.getElem?_take, if_pos (by omega)]
  have hlt : (l.take h).length = h := by rw [List.length_take]; omega
  have HR := Lib.hid hr2
  have HT := Lib.hid ht
  have HLT := Lib.hid hlt
  clear hh hr hr2 ht hlt
  go_enter Tryd.func5, Tryd.ntmps5
  go_wp2_with fail
  refine (shown_any _ HT.out).mono ?_
  rintro e w1 ⟨rfl, hb1⟩
  have hs1 := sum_any A c (l.take h) w1 (HR.out.up hb1) (by rw [HLT.out]; omega) (HT.out.up hb1)
  have hs2 := rsum_any A c (l.take h) w1 (HR.out.up hb1) (by rw [HLT.out]; omega)
  rw [HLT.out] at hs1 hs2
  obtain ⟨q, hq⟩ : ∃ q, M.crc (l.take h) = q := ⟨_, rfl⟩
  rw [hq] at hs1 hs2
  have HB := Lib.hid hb1
  clear hb1 hq
  go_wp2_with (first
    | (go_at_call 20; refine hs1.mono ?_; rintro e w' ⟨rfl, rfl⟩)
    | (go_at_call 21; refine hs2.mono ?_; rintro e w' ⟨rfl, rfl⟩))
  go_ret
  exact ⟨ret_bool (by simp), HB.out⟩
end Go.Proofs.YthnffebjjnbakaaDoor.wireSums
