/-
  Worlds that differ in some blocks alone.
-/
import Derived.Test.YtdffifkleaekhaaPCopy
namespace Go.Proofs.Ytdffifkleaekhaa.O
open Go.RowKit Go.Proofs.Ytdffifkleaekhaa.V
set_option linter.unusedVariables false
set_option linter.unusedSimpArgs false

/-- All blocks but those of X lie as they lay. -/
structure But (X : Nat → Prop) (w w' : World) : Prop where
  os : w'.os = w.os
  tape : w'.tape = w.tape
  output : w'.output = w.output
  size : w.heap.size ≤ w'.heap.size
  block : ∀ k, k < w.heap.size → ¬ X k → w'.heap[k]? = w.heap[k]?
theorem But.refl (X : Nat → Prop) (w : World) : But X w w := ⟨rfl, rfl, rfl, Nat.le_refl _, fun _ _ _ => rfl⟩
theorem But.trans {X : Nat → Prop} {a b c : World} (h : But X a b) (g : But X b c) : But X a c :=
  ⟨g.os.trans h.os, g.tape.trans h.tape, g.output.trans h.output, Nat.le_trans h.size g.size, fun k hk hx => (g.block k (Nat.lt_of_lt_of_le hk h.size) hx).trans (h.block k hk hx)⟩
theorem But.mono {X Y : Nat → Prop} {a b : World} (h : But X a b) (hxy : ∀ k, k < a.heap.size → X k → Y k) : But Y a b := ⟨h.os, h.tape, h.output, h.size, fun k hk hy => h.block k hk fun hx => hy (hxy k hk hx)⟩
theorem But.of {X : Nat → Prop} {a b : World} (h : Below a.heap.size a b) : But X a b := ⟨h.os, h.tape, h.output, h.size, fun k hk _ => h.block k hk⟩
theorem But.drew {X : Nat → Prop} {a b : World} (h : But X a b) : But X a b.drew := ⟨h.os, h.tape, h.output, h.size, h.block⟩
theorem But.alloc {X : Nat → Prop} {a b : World} (h : But X a b) (o : Obj) : But X a (b.alloc o) := h.trans (But.of ((Below.refl _ b).alloc (Nat.le_refl _) o))
theorem But.setCell {X : Nat → Prop} {a b : World} (h : But X a b) {p : Addr} (hp : X p.block ∨ a.heap.size ≤ p.block) (u : Value) : But X a (b.setCell p u) :=
  ⟨h.os, h.tape, h.output, Nat.le_trans h.size (by simp [World.setCell]), fun k hk hx => by
    have hne : k ≠ p.block := by
      rintro rfl
      rcases hp with hp | hp
      · exact hx hp
      · omega
    exact (Below.heap_setCell b p u k hne).trans (h.block k hk hx)⟩
theorem But.grown {X : Nat → Prop} {a b c : World} {row : Option Nat} (h : But X a b) (hg : b.grownBy c row) (hr : ∀ k, row = some k → X k ∨ a.heap.size ≤ k) : But X a c :=
  ⟨hg.os.trans h.os, hg.tape.trans h.tape, hg.output.trans h.output, Nat.le_trans h.size hg.size, fun k hk hx => by
    refine (hg.block k (Nat.lt_of_lt_of_le hk h.size) fun e => ?_).trans (h.block k hk hx)
    rcases hr k e.symm with h1 | h1
    · exact hx h1
    · omega⟩
theorem But.below {X : Nat → Prop} {B : Nat} {a b : World} (h : But X a b) (hX : ∀ k, X k → B ≤ k) (hB : B ≤ a.heap.size) : Below B a b :=
  ⟨h.os, h.tape, h.output, h.size, fun k hk => h.block k (by omega) fun hx => by have := hX k hx; omega⟩
theorem But.cell {X : Nat → Prop} {a b : World} (h : But X a b) {p : Addr} {v : Value} (hx : ¬ X p.block) (hc : a.cell? p = some v) : b.cell? p = some v := by
  obtain ⟨o, ho, _⟩ := cells_of_cell hc
  exact (World.cell?_of_block (h.block _ (Array.getElem?_eq_some_iff.1 ho).1 hx)).trans hc
theorem But.heap {X : Nat → Prop} {a b : World} (h : But X a b) {k : Nat} {o : Obj} (hx : ¬ X k) (ho : a.heap[k]? = some o) : b.heap[k]? = some o := (h.block k (Array.getElem?_eq_some_iff.1 ho).1 hx).trans ho
/-- A slice that lies apart from X. -/
def Apart (X : Nat → Prop) (A : Option Addr) : Prop := ∀ k, blk A = some k → ¬ X k
theorem But.row {X : Nat → Prop} {a b : World} (h : But X a b) {A : Option Addr} {l : List D} (hr : RowD a a.heap.size A l) (hA : Apart X A) : RowD b b.heap.size A l := fun hn => by
  obtain ⟨g, off, e, hb, hc⟩ := hr hn
  have hx : ¬ X g := hA g (by rw [e]; rfl)
  exact ⟨g, off, e, Nat.lt_of_lt_of_le hb h.size, fun j d hj => ⟨h.cell (p := ⟨g, off + j * 2, none⟩) hx (hc j d hj).1, h.cell (p := ⟨g, off + j * 2 + 1, none⟩) hx (hc j d hj).2⟩⟩
theorem But.vc {X : Nat → Prop} {a b : World} (h : But X a b) {x : Vc} (hx : x.ok a a.heap.size) (hA : Apart X x.A) : x.ok b b.heap.size := ⟨h.row hx.1 hA, hx.2⟩
theorem But.ov {X : Nat → Prop} {a b : World} (h : But X a b) {x : Ov} (hx : x.ok a a.heap.size) (hA : Apart X x.A) (hA2 : Apart X x.A2) : x.ok b b.heap.size := ⟨h.vc hx.d hA, h.vc hx.s hA2, hx.fit⟩
theorem Apart.none_ (X : Nat → Prop) : Apart X none := fun k h => by simp [blk] at h
theorem Fresh.apart {X : Nat → Prop} {A : Option Addr} {B : Nat} (h : Fresh A B) (hX : ∀ k, X k → k < B) : Apart X A := fun k hk hx => by have := h k hk; have := hX k hx; omega
theorem Fresh.mono {A : Option Addr} {B B' : Nat} (h : Fresh A B) (hB : B' ≤ B) : Fresh A B' := fun k hk => Nat.le_trans hB (h k hk)
end Go.Proofs.Ytdffifkleaekhaa.O
