/-
  Slices of trees: those that came in, those that the call itself makes and lengthens.
-/
import Derived.Test.YtkpefelakhbkhaaIWMath
import Derived.Test.YtkpefelakhbkhaaIArg
import Derived.Maps.AppendAt
namespace Go.Proofs.Ytkpefelakhbkhaa.I
open Go.RowKit

/-- A tree's two cells. -/
structure El where
  o : Bool
  A : Option Addr
  n : Nat
  c : Nat
def El.v (e : El) : Value := tv e.o e.A e.n e.c
/-- A slice of trees' cells. -/
def RowE (w : World) (B : Nat) (A : Option Addr) (l : List El) : Prop :=
  0 < l.length → ∃ b off, A = some ⟨b, off, none⟩ ∧ b < B ∧ ∀ j e, l[j]? = some e → w.cell? ⟨b, off + j * 2, none⟩ = some (.bool e.o) ∧ w.cell? ⟨b, off + j * 2 + 1, none⟩ = some (.slice e.A e.n e.c)
theorem RowE.below {w w' : World} {B : Nat} {A : Option Addr} {l : List El} (h : RowE w B A l) (hb : Below B w w') : RowE w' B A l :=
  fun hn => by obtain ⟨b, off, e, hl, hc⟩ := h hn; exact ⟨b, off, e, hl, fun j p hj => ⟨(hb.cell hl).trans (hc j p hj).1, (hb.cell hl).trans (hc j p hj).2⟩⟩
theorem RowE.more {w : World} {B B' : Nat} {A : Option Addr} {l : List El} (h : RowE w B A l) (hB : B ≤ B') : RowE w B' A l := fun hn => by obtain ⟨b, off, e, hb, hc⟩ := h hn; exact ⟨b, off, e, by omega, hc⟩
theorem RowE.up {w w' : World} {A : Option Addr} {l : List El} (h : RowE w w.heap.size A l) (hb : Below w.heap.size w w') : RowE w' w'.heap.size A l := (h.below hb).more hb.size
theorem RowE.at {w : World} {B : Nat} {A : Option Addr} {l : List El} (h : RowE w B A l) (j : Nat) (hj : j < l.length) : ∃ b off, A = some ⟨b, off, none⟩ ∧ b < B ∧ w.cell? ⟨b, off + j * 2, none⟩ = some (.bool (l[j]'hj).o) ∧ w.cell? ⟨b, off + j * 2 + 1, none⟩ = some (.slice (l[j]'hj).A (l[j]'hj).n (l[j]'hj).c) := by
  obtain ⟨b, off, e, hb, hc⟩ := h (by omega)
  exact ⟨b, off, e, hb, hc j _ (List.getElem?_eq_getElem hj)⟩
/-- A part of a slice. -/
theorem RowE.take {w : World} {B : Nat} {A : Option Addr} {l : List El} (h : RowE w B A l) (i : Nat) : RowE w B A (l.take i) := fun hn => by
  obtain ⟨b, off, e, hb, hc⟩ := h (by rw [List.length_take] at hn; omega)
  refine ⟨b, off, e, hb, fun j p hj => hc j p ?_⟩
  rw [List.getElem?_take] at hj
  split at hj
  · exact hj
  · cases hj
theorem RowE.drop {w : World} {B b off : Nat} {l : List El} (h : RowE w B (some ⟨b, off, none⟩) l) (i : Nat) : RowE w B (some ⟨b, off + i * 2, none⟩) (l.drop i) := fun hn => by
  obtain ⟨b', off', e, hb, hc⟩ := h (by rw [List.length_drop] at hn; omega)
  injection e with e
  injection e with e1 e2
  subst e1; subst e2
  refine ⟨b, off + i * 2, rfl, hb, fun j p hj => ?_⟩
  rw [List.getElem?_drop] at hj
  have := hc (i + j) p hj
  rw [show off + i * 2 + j * 2 = off + (i + j) * 2 by omega]
  exact this
/-- Right trees in a slice. -/
def InL (w : World) (B : Nat) (l : List El) (ts : List Tr) : Prop := l.length = ts.length ∧ ∀ (j : Nat) (e : El) (t : Tr), l[j]? = some e → ts[j]? = some t → InT w B t e.v
theorem InL.below {w w' : World} {B : Nat} {l : List El} {ts : List Tr} (h : InL w B l ts) (hb : Below B w w') : InL w' B l ts := ⟨h.1, fun j e t h1 h2 => (h.2 j e t h1 h2).below hb⟩
theorem InL.up {w w' : World} {l : List El} {ts : List Tr} (h : InL w w.heap.size l ts) (hb : Below w.heap.size w w') : InL w' w'.heap.size l ts := ⟨h.1, fun j e t h1 h2 => (h.2 j e t h1 h2).up hb⟩
theorem InL.take {w : World} {B : Nat} {l : List El} {ts : List Tr} (h : InL w B l ts) (i : Nat) : InL w B (l.take i) (ts.take i) :=
  ⟨by simp [h.1], fun j e t h1 h2 => by
    rw [List.getElem?_take] at h1 h2
    split at h1
    · rename_i hj; rw [if_pos hj] at h2; exact h.2 j e t h1 h2
    · cases h1⟩
theorem InL.drop {w : World} {B : Nat} {l : List El} {ts : List Tr} (h : InL w B l ts) (i : Nat) : InL w B (l.drop i) (ts.drop i) :=
  ⟨by simp [h.1], fun j e t h1 h2 => by
    rw [List.getElem?_drop] at h1 h2
    exact h.2 _ e t h1 h2⟩
theorem InL.app {w : World} {B : Nat} {l : List El} {ts : List Tr} (h : InL w B l ts) {e : El} {t : Tr} (ht : InT w B t e.v) : InL w B (l ++ [e]) (ts ++ [t]) := by
  refine ⟨by simp [h.1], fun j e' t' h1 h2 => ?_⟩
  rcases Nat.lt_or_ge j l.length with hj | hj
  · rw [List.getElem?_append_left hj] at h1
    rw [List.getElem?_append_left (by rw [← h.1]; exact hj)] at h2
    exact h.2 j e' t' h1 h2
  · rw [List.getElem?_append_right hj] at h1
    rw [List.getElem?_append_right (by rw [← h.1]; exact hj)] at h2
    rw [← h.1] at h2
    cases hk : j - l.length with
    | zero =>
      rw [hk] at h1 h2
      simp at h1 h2
      subst h1; subst h2
      exact ht
    | succ k => rw [hk] at h1; simp at h1
/-- A slice of trees of the call's own. -/
def cellsE (l : List El) : List Value := l.flatMap fun e => [.bool e.o, .slice e.A e.n e.c]
theorem cellsE_length (l : List El) : (cellsE l).length = l.length * 2 := by
  induction l with
  | nil => rfl
  | cons p t ih => simp [cellsE] at ih ⊢; omega
theorem cellsE_get : ∀ (l : List El) (j : Nat) (r : El), l[j]? = some r → (cellsE l)[j * 2]? = some (.bool r.o) ∧ (cellsE l)[j * 2 + 1]? = some (.slice r.A r.n r.c)
  | [], j, p, h => by simp at h
  | q :: t, 0, p, h => by simp at h; subst h; simp [cellsE]
  | q :: t, j + 1, p, h => by
    have ih := cellsE_get t j p (by simpa using h)
    have e : cellsE (q :: t) = .bool q.o :: .slice q.A q.n q.c :: cellsE t := by simp [cellsE]
    rw [e, show (j + 1) * 2 = j * 2 + 1 + 1 by omega]
    simp only [List.getElem?_cons_succ]
    exact ih
def GrE (w : World) (base : Nat) (A : Option Addr) (c : Nat) (l : List El) : Prop := w.ownsRow base 24 2 (.slice A l.length c) l.length (cellsE l)
theorem GrE.nil (w : World) (base : Nat) : GrE w base none 0 [] := ⟨by simp [cellsE], .inl ⟨rfl, rfl⟩⟩
theorem GrE.cases {w : World} {base : Nat} {A : Option Addr} {c : Nat} {l : List El} (h : GrE w base A c l) : (A = none ∧ l = [] ∧ c = 0) ∨ ∃ g cur, A = some ⟨g, 0, none⟩ ∧ base ≤ g ∧ w.heap[g]? = some (.cells cur 24 (0, 0)) ∧ l.length ≤ c ∧ c ≤ maxLen ∧ cur.size = c * 2 ∧ cur.toList.take (l.length * 2) = cellsE l := by
  rcases h.2 with ⟨e, h0⟩ | ⟨g, cap, cur, e, hb, hc, h1, h2, h3, h4⟩
  · injection e with e1 e2 e3
    exact .inl ⟨e1, List.eq_nil_of_length_eq_zero e2, e3⟩
  · injection e with e1 e2 e3
    subst e1; subst e3
    exact .inr ⟨g, cur, rfl, hb, hc, h1, h2, h3, h4⟩
theorem GrE.row {w : World} {base c : Nat} {A : Option Addr} {l : List El} (h : GrE w base A c l) : RowE w w.heap.size A l := by
  rcases h.cases with ⟨rfl, rfl, rfl⟩ | ⟨g, cur, rfl, hb, hc, h1, h2, h3, h4⟩
  · exact fun h => absurd h (by simp)
  · refine fun _ => ⟨g, 0, rfl, (Array.getElem?_eq_some_iff.1 hc).1, fun j p hp => ?_⟩
    have hj := (List.getElem?_eq_some_iff.1 hp).1
    have hcell : ∀ k, k < l.length * 2 → w.cell? ⟨g, k, none⟩ = (cellsE l)[k]? := fun k hk => by
      rw [cell_of_row w g k cur 24 (0, 0) hc, ← h4, List.getElem?_take, if_pos hk]; simp
    obtain ⟨g0, g1⟩ := cellsE_get l j p hp
    exact ⟨by rw [Nat.zero_add, hcell _ (by omega), g0], by rw [Nat.zero_add, hcell _ (by omega), g1]⟩
/-- Where a slice lies. -/
def blk (A : Option Addr) : Option Nat := A.map Addr.block
theorem blk_own (A : Option Addr) (n c : Nat) : (Value.slice A n c).ownBlock = blk A := by cases A <;> rfl
theorem GrE.lt {w : World} {base c : Nat} {A : Option Addr} {l : List El} (h : GrE w base A c l) : ∀ k, blk A = some k → base ≤ k ∧ k < w.heap.size := by
  have := World.ownsRow.lt h
  rw [blk_own] at this
  exact this
theorem GrE.below {w w' : World} {base c B : Nat} {A : Option Addr} {l : List El} (h : GrE w base A c l) (hb : Below B w w') (hB : w.heap.size ≤ B) : GrE w' base A c l := by
  refine ⟨h.1, ?_⟩
  rcases h.2 with ⟨e, h0⟩ | ⟨g, cap, cur, e, hb', hc, h1⟩
  · exact .inl ⟨e, h0⟩
  · have := (Array.getElem?_eq_some_iff.1 hc).1
    exact .inr ⟨g, cap, cur, e, hb', (hb.block g (by omega)).trans hc, h1⟩
theorem info24 : (Try.prog.info? 24).map (fun i => (i.zero, i.size, i.bytes)) = some (some (.agg #[.bool false, .slice none 0 0]), 2, 32) := by kernel_rfl
theorem oneCell_cellsE (l : List El) : ∀ v ∈ cellsE l, v.oneCell' = true := by
  intro v hv
  obtain ⟨p, _, h⟩ := List.mem_flatMap.1 hv
  simp only [List.mem_cons, List.not_mem_nil, or_false] at h
  rcases h with rfl | rfl <;> rfl
/-- append(out, t): one tree, in a block of its own. Where the new slice lies: where it lay, or in a new block. -/
theorem GrE.one {w : World} {base c : Nat} {A : Option Addr} {l : List El} (h : GrE w base A c l) (r : El) (ty : TypeId) (hb : l.length ≤ 10000000) (hbase : base ≤ w.heap.size) :
    ∃ A' c' w', (Builtin.append_ #[22, 22] ty #[.slice A l.length c, .slice (some ⟨w.heap.size, 0, none⟩) 1 1]).run Try.prog (w.alloc (.cells #[.bool r.o, .slice r.A r.n r.c] 24)) = .ok (.slice A' (l.length + 1) c') w' ∧ GrE w' base A' c' (l ++ [r]) ∧ Below base w w' ∧ (∀ k, k < w.heap.size → blk A ≠ some k → w'.heap[k]? = w.heap[k]?) ∧ w.heap.size ≤ w'.heap.size ∧ (blk A' = blk A ∨ ∃ k, blk A' = some k ∧ w.heap.size ≤ k) := by
  obtain ⟨i0, hi, hz0, hz1, hz2⟩ := info_parts info24
  have hB0 : Below base w (w.alloc (.cells #[.bool r.o, .slice r.A r.n r.c] 24)) := (Below.refl _ w).alloc hbase _
  have hBt : Below w.heap.size w (w.alloc (.cells #[.bool r.o, .slice r.A r.n r.c] 24)) := (Below.refl _ w).alloc (Nat.le_refl _) _
  have hcell : ∀ j u, (cellsE [r])[j]? = some u → (w.alloc (.cells #[.bool r.o, .slice r.A r.n r.c] 24)).cell? ((⟨w.heap.size, 0, none⟩ : Addr).add j) = some u := by
    intro j u hu
    have e : (⟨w.heap.size, 0, none⟩ : Addr).add j = ⟨w.heap.size, j, none⟩ := by
      unfold Addr.add; split
      · rename_i h; subst h; rfl
      · simp
    rw [e, cell_of_row _ _ j _ 24 (0, 0) (heap_alloc_new w _)]
    simpa [cellsE] using hu
  obtain ⟨v', w', hrun, ho, hg, hn, hat⟩ := run_append_own_at (P := Try.prog) (w.alloc (.cells #[.bool r.o, .slice r.A r.n r.c] 24)) base 22 ty 24 i0 (.agg #[.bool false, .slice none 0 0]) 2 32 Try.underlying22 hi hz0 hz1 hz2 rfl (by decide) _ _ _ (h.below hBt (Nat.le_refl _)) _ 1 1 (cellsE [r]) (by simp [cellsE]) hcell (oneCell_cellsE [r]) (by unfold maxLen; omega) (by omega) (by simp; omega)
  have hB : Below base w w' := hB0.grown hg (by simp; omega) (fun k e => by rw [blk_own] at e; exact (h.lt k e).1)
  have e2 : cellsE (l ++ [r]) = cellsE l ++ cellsE [r] := by simp [cellsE]
  have e3 : (l ++ [r]).length = l.length + 1 := by simp
  rw [blk_own] at hg hat
  rcases ho.2 with ⟨e, h0⟩ | ⟨g', cap', cur, e, _⟩
  · omega
  · rw [e] at hrun ho hat
    refine ⟨_, _, w', hrun, by unfold GrE; rw [e2, e3]; exact ho, hB, fun k hk hne => ?_, ?_, ?_⟩
    · exact (hg.block k (by simp; omega) (fun e => hne e.symm)).trans (hBt.block k hk)
    · have := hg.size; simp only [World.size_alloc] at this; omega
    · rw [blk_own] at hat
      rcases hat with hat | hat
      · exact .inl hat
      · exact .inr ⟨_, hat, by simp⟩
end Go.Proofs.Ytkpefelakhbkhaa.I
