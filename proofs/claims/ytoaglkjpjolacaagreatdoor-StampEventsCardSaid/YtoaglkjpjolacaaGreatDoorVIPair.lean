/-
  The program's meet and same: two trees, node by node.
-/
import Derived.Test.YtoaglkjpjolacaaGreatDoorVI2
import Derived.Test.YtoaglkjpjolacaaGreatDoorVI1
namespace Go.Proofs.YtoaglkjpjolacaaGreatDoor.I
open Go.RowKit
/-- Two boxed trees. -/
structure MB (w : World) (o1 : Bool) (A1 : Option Addr) (n1 c1 : Nat) (o2 : Bool) (A2 : Option Addr) (n2 c2 : Nat) (W : World) : Prop where
  a0 : W.cell? ⟨w.heap.size, 0, none⟩ = some (.bool o1)
  a1 : W.cell? ⟨w.heap.size, 1, none⟩ = some (.slice A1 n1 c1)
  b0 : W.cell? ⟨w.heap.size + 1, 0, none⟩ = some (.bool o2)
  b1 : W.cell? ⟨w.heap.size + 1, 1, none⟩ = some (.slice A2 n2 c2)
  bel : Below w.heap.size w W
  big : w.heap.size + 2 ≤ W.heap.size
theorem MB.start (w : World) (o1 : Bool) (A1 : Option Addr) (n1 c1 : Nat) (o2 : Bool) (A2 : Option Addr) (n2 c2 : Nat) : MB w o1 A1 n1 c1 o2 A2 n2 c2 ((w.alloc (.cells #[.bool o1, .slice A1 n1 c1] 24)).alloc (.cells #[.bool o2, .slice A2 n2 c2] 24)) :=
  ⟨by simp [go_sem], by simp [go_sem], by simp [go_sem], by simp [go_sem], ((Below.refl _ w).alloc (Nat.le_refl _) _).alloc (by simp) _, by simp⟩
theorem MB.next {w : World} {o1 o2 : Bool} {A1 A2 : Option Addr} {n1 n2 c1 c2 : Nat} {W W' : World} (h : MB w o1 A1 n1 c1 o2 A2 n2 c2 W) {B : Nat} (hb : Below B W W') (hB : w.heap.size + 2 ≤ B) : MB w o1 A1 n1 c1 o2 A2 n2 c2 W' :=
  ⟨(hb.cell (by show w.heap.size < _; omega)).trans h.a0, (hb.cell (by show w.heap.size < _; omega)).trans h.a1, (hb.cell (by show w.heap.size + 1 < _; omega)).trans h.b0, (hb.cell (by show w.heap.size + 1 < _; omega)).trans h.b1, h.bel.trans (hb.mono (by omega)), Nat.le_trans h.big hb.size⟩
theorem MB.drew {w : World} {o1 o2 : Bool} {A1 A2 : Option Addr} {n1 n2 c1 c2 : Nat} {W : World} (h : MB w o1 A1 n1 c1 o2 A2 n2 c2 W) : MB w o1 A1 n1 c1 o2 A2 n2 c2 W.drew := h.next ((Below.refl W.heap.size W).drew) h.big

end Go.Proofs.YtoaglkjpjolacaaGreatDoor.I
