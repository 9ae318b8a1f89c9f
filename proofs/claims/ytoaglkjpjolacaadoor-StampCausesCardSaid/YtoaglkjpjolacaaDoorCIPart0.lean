/-
  The reference's parted.
-/
import Derived.Test.YtoaglkjpjolacaaDoorCI4
namespace Go.Proofs.YtoaglkjpjolacaaDoor.I
open Go.RowKit
theorem XS.two {w W : World} {bs : List (Nat × Value × Value)} {rs : List Nat} (h : XS w bs rs W) {s t : Tr} {x y : Value} (hs : InT W W.heap.size s x) (ht : InT W W.heap.size t y) (g g' : Nat) (hg : g ∈ rs) (hg' : g' ∈ rs) (u1 u2 u3 u4 : Value) (hd : ∀ b ∈ bs, b.1 ≠ g) (hd' : ∀ b ∈ bs, b.1 ≠ g') :
    Two (s, t) w (.returned (.tuple #[x, y])) ((((W.setCell ⟨g, 0, none⟩ u1).setCell ⟨g, 1, none⟩ u2).setCell ⟨g', 0, none⟩ u3).setCell ⟨g', 1, none⟩ u4) := by
  obtain ⟨v1, v2, e, h1, h2, h3⟩ := h.fin2 hs ht g g' hg hg' (.int .i64 0) u1 u2 u3 u4 0 hd hd' rfl
  injection e with e
  injection e with e
  injection e with e
  injection e with e1 e
  injection e with e2 e
  subst e1; subst e2
  exact ⟨_, _, rfl, h1, h2, h3⟩

end Go.Proofs.YtoaglkjpjolacaaDoor.I
