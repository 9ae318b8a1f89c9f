/-
  The reference's parted.
-/
import Derived.Test.YtoaglkjpjolacaaDoorFI4
namespace Go.Proofs.YtoaglkjpjolacaaDoor.I
open Go.RowKit
/-- Two trees, one behind the other in a new block, are a node's kids. -/
theorem pair_new {W : World} {x y : Tr} {o1 o2 : Bool} {A1 A2 : Option Addr} {n1 n2 c1 c2 : Nat} (hx : InT W W.heap.size x (tv o1 A1 n1 c1)) (hy : InT W W.heap.size y (tv o2 A2 n2 c2)) :
    InT (W.alloc (.cells #[.bool o1, .slice A1 n1 c1, .bool o2, .slice A2 n2 c2] 24)) (W.alloc (.cells #[.bool o1, .slice A1 n1 c1, .bool o2, .slice A2 n2 c2] 24)).heap.size (.node x y) (tv false (some ⟨W.heap.size, 0, none⟩) 2 2) :=
  two_in ((Below.refl _ W).alloc (Nat.le_refl _) _) (heap_alloc_new W _) hx hy
theorem new_below (W : World) (o : Obj) : Below W.heap.size W (W.alloc o) := (Below.refl _ W).alloc (Nat.le_refl _) _
theorem XS.two {w W : World} {bs : List (Nat × Value × Value)} {rs : List Nat} (h : XS w bs rs W) {s t : Tr} {x y : Value} (hs : InT W W.heap.size s x) (ht : InT W W.heap.size t y) (g g' : Nat) (hg : g ∈ rs) (hg' : g' ∈ rs) (u1 u2 u3 u4 : Value) (hd : ∀ b ∈ bs, b.1 ≠ g) (hd' : ∀ b ∈ bs, b.1 ≠ g') :
    Two (s, t) w (.returned (.tuple #[x, y])) ((((W.setCell ⟨g, 0, none⟩ u1).setCell ⟨g, 1, none⟩ u2).setCell ⟨g', 0, none⟩ u3).setCell ⟨g', 1, none⟩ u4) := by
  obtain ⟨v1, v2, e, h1, h2, h3⟩ := h.fin2 hs ht g g' hg hg' (.int .i64 0) u1 u2 u3 u4 0 hd hd' rfl
  injection e with e
  injection e with e
  injection e with e
  injection e with e1 e
  injection e with e2 e
  subst e1; subst e2
  exact ⟨_, _, rfl, h1, h2, h3⟩

end Go.Proofs.YtoaglkjpjolacaaDoor.I
