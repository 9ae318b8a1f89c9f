/-
  The reference's Norm, Ends, Leq, Join, Same of trees that are handed in.
-/
import Derived.Test.YtoaglkjpjolacaaDoorCE4
import Derived.Test.YtoaglkjpjolacaaDoorCE2
import Derived.Test.YtoaglkjpjolacaaDoorCE3
namespace Go.Proofs.YtoaglkjpjolacaaDoor.E
open Go.RowKit
/-- What a right tree's steps are. -/
structure Mean (t : Tr) (l : List St) : Prop where
  seg : Seg 0 l 4294967296
  cov : Tr.Cov (cnt l) t 32 0 0
  inb : InB l
  len : l.length ≤ 2047
theorem Mean.hd {t : Tr} {l : List St} (h : Mean t l) : ∃ c0, l[0]? = some c0 := by
  cases l with
  | nil => have : (0 : Nat) = 4294967296 := h.seg; omega
  | cons c r => exact ⟨c, rfl⟩
theorem Mean.norm {t : Tr} {l : List St} (h : Mean t l) : Tr.bld (cnt l) 32 0 = t.norm := by
  rw [Tr.bld_norm t 32 0 0 h.cov, Tr.add_zero]
theorem cov_ends {f : Nat → Int} : ∀ (t : Tr) (k a : Nat) (s : Int), Tr.Cov f t k a s → Tr.lo f k a = s + low t ∧ Tr.hi f k a = s + high t
  | .leaf n, k, a, s, h => by
    obtain ⟨p, h1, h2, h3⟩ := Tr.lo_at f k a
    obtain ⟨q, g1, g2, g3⟩ := Tr.hi_at f k a
    rw [← h3, ← g3, h p h1 h2, h q g1 g2]; exact ⟨rfl, rfl⟩
  | .node _ _ _, 0, _, _, h => h.elim
  | .node n l r, k + 1, a, s, ⟨h1, h2⟩ => by
    have i1 := cov_ends l k a _ h1
    have i2 := cov_ends r k _ _ h2
    simp only [Tr.lo, Tr.hi, low, high]
    omega
theorem Mean.ends {t : Tr} {l : List St} (h : Mean t l) {c0 : St} (h0 : l[0]? = some c0) : minL l c0.2 = low t ∧ maxL l c0.2 = high t := by
  have hs : Seg 0 l (0 + 2 ^ 32) := by simpa using h.seg
  obtain ⟨e1, e2⟩ := seg_ends hs h0
  obtain ⟨e3, e4⟩ := cov_ends t 32 0 0 h.cov
  omega
/-- Two trees' steps together. -/
structure Both (a b : Tr) (l m : List St) : Prop where
  seg : Seg 0 (bothS l m) 4294967296
  bld : Tr.bld (cnt (bothS l m)) 32 0 = Tr.join a b 0 0
  leq : bothL l m true = leqT a b 0 0
  inb : InB (bothS l m)
  len : (bothS l m).length ≤ 4094
end Go.Proofs.YtoaglkjpjolacaaDoor.E
