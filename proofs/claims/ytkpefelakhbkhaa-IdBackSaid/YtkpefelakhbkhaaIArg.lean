/-
  Trees that a function is handed, right or not; variables of two cells; Right and Norm of such trees.
-/
import Derived.Test.YtkpefelakhbkhaaIDen
import Derived.Test.YtkpefelakhbkhaaIUnion
import Derived.Test.YtkpefelakhbkhaaIShow
namespace Go.Proofs.Ytkpefelakhbkhaa.I
open Go.RowKit

def fit (t : Tr) : Option Tr := if t.depth ≤ 32 ∧ t.nodes ≤ 2047 then some t else none
theorem fit_some (t : Tr) : (fit t).isSome = (decide (t.depth ≤ 32) && decide (t.nodes ≤ 2047)) := by
  unfold fit
  by_cases h1 : t.depth ≤ 32 <;> by_cases h2 : t.nodes ≤ 2047 <;> simp [h1, h2]
theorem fit_of {t : Tr} (h1 : t.depth ≤ 32) (h2 : t.nodes ≤ 2047) : fit t = some t := if_pos ⟨h1, h2⟩
theorem fit_norm {t : Tr} (h : fit t = some t) : fit t.norm = some t.norm := by
  unfold fit at h
  split at h
  · rename_i h1
    exact fit_of (Nat.le_trans (norm_depth t) h1.1) (Nat.le_trans (norm_nodes t) h1.2)
  · cases h
theorem fit_eq {t s : Tr} (h : fit t = some s) : s = t ∧ t.depth ≤ 32 ∧ t.nodes ≤ 2047 := by
  unfold fit at h
  split at h
  · rename_i h1; injection h with h; exact ⟨h.symm, h1⟩
  · cases h
/-- A tree that is handed in, anywhere in memory: the right tree T, or none. -/
def Arg (w : World) (T : Option Tr) (v : Value) : Prop := ∃ o ks A c, v = tv o A ks.len c ∧ Kd w w.heap.size ks A ∧ treeOf o ks = T
theorem Arg.up {w w' : World} {T : Option Tr} {v : Value} (h : Arg w T v) (hb : Below w.heap.size w w') : Arg w' T v := by
  obtain ⟨o, ks, A, c, e, hk, ht⟩ := h
  exact ⟨o, ks, A, c, e, hk.up hb, ht⟩
theorem Arg.form {w : World} {T : Option Tr} {v : Value} (h : Arg w T v) : ∃ o A n c, v = tv o A n c := by
  obtain ⟨o, ks, A, c, e, hk, ht⟩ := h
  exact ⟨o, A, ks.len, c, e⟩
theorem Arg.inT {w : World} {t : Tr} {v : Value} (h : Arg w (some t) v) : InT w w.heap.size t v ∧ t.depth ≤ 32 ∧ t.nodes ≤ 2047 := by
  obtain ⟨o, ks, A, c, rfl, hk, ht⟩ := h
  exact in_treeOf ht hk
theorem Arg.fit {w : World} {t : Tr} {v : Value} (h : Arg w (some t) v) : fit t = some t := fit_of h.inT.2.1 h.inT.2.2
theorem arg_of {w : World} {t : Tr} {v : Value} (h : InT w w.heap.size t v) : Arg w (fit t) v := by
  obtain ⟨o, ks, A, c, rfl, hk, ht⟩ := unT h
  refine ⟨o, ks, A, c, rfl, hk, ?_⟩
  unfold treeOf I.fit
  rw [ht]
  simp only [Option.filter]
  by_cases h1 : t.depth ≤ 32 <;> by_cases h2 : t.nodes ≤ 2047 <;> simp [h1, h2]
theorem right_arg {w : World} {T : Option Tr} {v : Value} (h : Arg w T v) : Calls Try.prog 17 #[v] w fun e w' => e = .returned (.bool T.isSome) ∧ Below w.heap.size w w' := by
  obtain ⟨o, ks, A, c, rfl, hk, rfl⟩ := h
  exact right_any o ks A c w hk
theorem rright_arg {w : World} {T : Option Tr} {v : Value} (h : Arg w T v) : Calls Try.prog 18 #[v] w fun e w' => e = .returned (.bool T.isSome) ∧ Below w.heap.size w w' := by
  obtain ⟨o, ks, A, c, rfl, hk, rfl⟩ := h
  exact rRight_any o ks A c w hk
theorem norm_arg {w : World} {T : Option Tr} {v : Value} (h : Arg w T v) : Calls Try.prog 13 #[v] w (Ans (normR T) w) := by
  obtain ⟨o, ks, A, c, rfl, hk, rfl⟩ := h
  exact pnorm_any o ks A c w hk
theorem rnorm_arg {w : World} {T : Option Tr} {v : Value} (h : Arg w T v) : Calls Try.prog 14 #[v] w (Ans (normR T) w) := by
  obtain ⟨o, ks, A, c, rfl, hk, rfl⟩ := h
  exact (rnorm_any o ks A c w hk).mono fun e w' h => h.ans
/-- An answer's tree, handed on. -/
def ansT (r : Tr × Int) : Option Tr := fit r.1

/-- Variables of two cells: what lies in those of bs, where those of rs are; all of the call's own. -/
structure XS (w : World) (bs : List (Nat × Value × Value)) (rs : List Nat) (W : World) : Prop where
  at0 : ∀ b ∈ bs, W.cell? ⟨b.1, 0, none⟩ = some b.2.1 ∧ W.cell? ⟨b.1, 1, none⟩ = some b.2.2 ∧ b.1 < W.heap.size
  box : ∀ r ∈ rs, Box2 W r ∧ r < W.heap.size ∧ w.heap.size ≤ r
  bel : Below w.heap.size w W
theorem XS.next {w W W' : World} {bs : List (Nat × Value × Value)} {rs : List Nat} (h : XS w bs rs W) (hb : Below W.heap.size W W') : XS w bs rs W' :=
  ⟨fun b hm => ⟨(hb.cell (h.at0 b hm).2.2).trans (h.at0 b hm).1, (hb.cell (h.at0 b hm).2.2).trans (h.at0 b hm).2.1, Nat.lt_of_lt_of_le (h.at0 b hm).2.2 hb.size⟩,
   fun r hm => ⟨(h.box r hm).1.below hb (h.box r hm).2.1, Nat.lt_of_lt_of_le (h.box r hm).2.1 hb.size, (h.box r hm).2.2⟩, h.bel.trans (hb.mono h.bel.size)⟩
theorem XS.drew {w W : World} {bs : List (Nat × Value × Value)} {rs : List Nat} (h : XS w bs rs W) : XS w bs rs W.drew := h.next ((Below.refl W.heap.size W).drew)
theorem XS.begin (w : World) : XS w [] [] w := ⟨by simp, by simp, Below.refl _ _⟩
/-- One more, with its values. -/
theorem XS.boxed {w W : World} {bs : List (Nat × Value × Value)} {rs : List Nat} (h : XS w bs rs W) (u v : Value) : XS w (bs ++ [(W.heap.size, u, v)]) rs (W.alloc (.cells #[u, v] 24)) := by
  have h1 := h.next ((Below.refl W.heap.size W).alloc (Nat.le_refl _) (.cells #[u, v] 24))
  refine ⟨fun b hm => ?_, h1.box, h1.bel⟩
  rcases List.mem_append.1 hm with hm | hm
  · exact h1.at0 b hm
  · simp only [List.mem_singleton] at hm
    subst hm
    exact ⟨by simp [go_sem], by simp [go_sem], by simp⟩
/-- One more, to be written. -/
theorem XS.fresh {w W : World} {bs : List (Nat × Value × Value)} {rs : List Nat} (h : XS w bs rs W) (u v : Value) : XS w bs (rs ++ [W.heap.size]) (W.alloc (.cells #[u, v] 24)) := by
  have h1 := h.next ((Below.refl W.heap.size W).alloc (Nat.le_refl _) (.cells #[u, v] 24))
  refine ⟨h1.at0, fun r hm => ?_, h1.bel⟩
  rcases List.mem_append.1 hm with hm | hm
  · exact h1.box r hm
  · simp only [List.mem_singleton] at hm
    subst hm
    exact ⟨⟨_, heap_alloc_new W _, rfl⟩, by simp, h.bel.size⟩
theorem XS.store {w W : World} {bs : List (Nat × Value × Value)} {rs : List Nat} (h : XS w bs rs W) (g i : Nat) (u : Value) (hg : g ∈ rs) (hd : ∀ b ∈ bs, b.1 ≠ g) : XS w bs rs (W.setCell ⟨g, i, none⟩ u) := by
  refine ⟨fun b hm => ⟨(World.cell?_setCell_other _ _ _ _ (fun e => by injection e with e; exact hd b hm e.symm)).trans (h.at0 b hm).1, (World.cell?_setCell_other _ _ _ _ (fun e => by injection e with e; exact hd b hm e.symm)).trans (h.at0 b hm).2.1, by rw [size_set]; exact (h.at0 b hm).2.2⟩, fun r hm => ⟨?_, by rw [size_set]; exact (h.box r hm).2.1, (h.box r hm).2.2⟩, h.bel.setCell (p := ⟨g, i, none⟩) (h.box g hg).2.2 _⟩
  by_cases e : r = g
  · subst e; exact (h.box r hm).1.set u
  · exact (h.box r hm).1.far e u
/-- The same, with the values that were written. -/
theorem XS.put {w W : World} {bs : List (Nat × Value × Value)} {rs : List Nat} (h : XS w bs rs W) (g : Nat) (u v : Value) (hg : g ∈ rs) (hd : ∀ b ∈ bs, b.1 ≠ g) : XS w (bs ++ [(g, u, v)]) rs ((W.setCell ⟨g, 0, none⟩ u).setCell ⟨g, 1, none⟩ v) := by
  have h1 := (h.store g 0 u hg hd).store g 1 v hg hd
  refine ⟨fun b hm => ?_, h1.box, h1.bel⟩
  rcases List.mem_append.1 hm with hm | hm
  · exact h1.at0 b hm
  · simp only [List.mem_singleton] at hm
    subst hm
    obtain ⟨y0, y1, ⟨d0, d1⟩, f0, f1⟩ := (h.box g hg).1.facts
    refine ⟨?_, ?_, by rw [size_set, size_set]; exact (h.box g hg).2.1⟩
    · simp [go_sem, d0]
    · simp [go_sem, d1]
theorem XS.tree {w W : World} {bs : List (Nat × Value × Value)} {rs : List Nat} (h : XS w bs rs W) {t : Tr} {x : Value} (ht : InT W W.heap.size t x) (g i : Nat) (u : Value) (hg : g ∈ rs) : InT (W.setCell ⟨g, i, none⟩ u) (W.setCell ⟨g, i, none⟩ u).heap.size t x := by
  rw [size_set]; exact InT.set2 (h.box g hg).1 ht
theorem XS.facts {w W : World} {bs : List (Nat × Value × Value)} {rs : List Nat} (h : XS w bs rs W) (g : Nat) (hg : g ∈ rs) : ∃ u0 u1, (W.cell? ⟨g, 0, none⟩ = some u0 ∧ W.cell? ⟨g, 1, none⟩ = some u1) ∧ W.frozen? ⟨g, 0, none⟩ = false ∧ W.frozen? ⟨g, 1, none⟩ = false := (h.box g hg).1.facts
/-- One variable is written at the end. -/
theorem XS.fin {w W : World} {bs : List (Nat × Value × Value)} {rs : List Nat} (h : XS w bs rs W) {t : Tr} {x : Value} (ht : InT W W.heap.size t x) (g : Nat) (hg : g ∈ rs) (u1 u2 : Value) :
    InT ((W.setCell ⟨g, 0, none⟩ u1).setCell ⟨g, 1, none⟩ u2) ((W.setCell ⟨g, 0, none⟩ u1).setCell ⟨g, 1, none⟩ u2).heap.size t x ∧ Below w.heap.size w ((W.setCell ⟨g, 0, none⟩ u1).setCell ⟨g, 1, none⟩ u2) := store_two (h.box g hg).1 ht h.bel (h.box g hg).2.2
end Go.Proofs.Ytkpefelakhbkhaa.I
