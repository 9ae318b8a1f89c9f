/-
  Slices of trees that a call itself makes and lengthens.
-/
import Derived.Test.YtflghlmikpfnpaaDoorESmall
import Derived.Maps.AppendAt
namespace Go.Proofs.YtflghlmikpfnpaaDoor.E
open Go.RowKit

/-- A tree's two cells. -/
structure El where
  o : Int
  A : Option Addr
  n : Nat
  c : Nat
def El.v (e : El) : Value := tv e.o e.A e.n e.c
def cellsE (l : List El) : List Value := l.flatMap fun e => [.int .i64 e.o, .slice e.A e.n e.c]
theorem cellsE_length (l : List El) : (cellsE l).length = l.length * 2 := by
  induction l with
  | nil => rfl
  | cons p t ih => simp [cellsE] at ih ⊢; omega
theorem cellsE_get : ∀ (l : List El) (j : Nat) (r : El), l[j]? = some r → (cellsE l)[j * 2]? = some (.int .i64 r.o) ∧ (cellsE l)[j * 2 + 1]? = some (.slice r.A r.n r.c)
  | [], j, p, h => by simp at h
  | q :: t, 0, p, h => by simp at h; subst h; simp [cellsE]
  | q :: t, j + 1, p, h => by
    have ih := cellsE_get t j p (by simpa using h)
    have e : cellsE (q :: t) = .int .i64 q.o :: .slice q.A q.n q.c :: cellsE t := by simp [cellsE]
    rw [e, show (j + 1) * 2 = j * 2 + 1 + 1 by omega]
    simp only [List.getElem?_cons_succ]
    exact ih
def GrE (w : World) (base : Nat) (A : Option Addr) (c : Nat) (l : List El) : Prop := w.ownsRow base 24 2 (.slice A l.length c) l.length (cellsE l)
theorem GrE.nil (w : World) (base : Nat) : GrE w base none 0 [] := ⟨by simp [cellsE], .inl ⟨rfl, rfl⟩⟩
theorem GrE.cases {w : World} {base : Nat} {A : Option Addr} {c : Nat} {l : List El} (h : GrE w base A c l) : (A = none ∧ l = [] ∧ c = 0) ∨ ∃ g cur, A = some ⟨g, 0, none⟩ ∧ base ≤ g ∧ w.heap[g]? = some (.cells cur 24 (0, 0)) ∧ l.length ≤ c ∧ c ≤ maxLen ∧ cur.size = c * 2 ∧ cur.toList.take (l.length * 2) = cellsE l := by
  rcases h.2 with ⟨e, h0⟩ | ⟨g, cap, cur, e, hb, hc, h1, h2, h3, h4⟩
  · injection e with e1 e2 e3
    exact .inl ⟨e1, List.eq_nil_of_length_eq_zero e2, e3⟩
  · injection e with e1 e2 e3
    subst e1; subst e3
    exact .inr ⟨g, cur, rfl, hb, hc, h1, h2, h3, h4⟩
theorem GrE.cells {w : World} {base c : Nat} {A : Option Addr} {l : List El} (h : GrE w base A c l) (hl : 0 < l.length) : ∃ g, A = some ⟨g, 0, none⟩ ∧ base ≤ g ∧ g < w.heap.size ∧ ∀ j p, l[j]? = some p → w.cell? ⟨g, j * 2, none⟩ = some (.int .i64 p.o) ∧ w.cell? ⟨g, j * 2 + 1, none⟩ = some (.slice p.A p.n p.c) := by
  rcases h.cases with ⟨rfl, rfl, rfl⟩ | ⟨g, cur, rfl, hb, hc, h1, h2, h3, h4⟩
  · simp at hl
  · refine ⟨g, rfl, hb, (Array.getElem?_eq_some_iff.1 hc).1, fun j p hp => ?_⟩
    have hj := (List.getElem?_eq_some_iff.1 hp).1
    have hcell : ∀ k, k < l.length * 2 → w.cell? ⟨g, k, none⟩ = (cellsE l)[k]? := fun k hk => by
      rw [cell_of_row w g k cur 24 (0, 0) hc, ← h4, List.getElem?_take, if_pos hk]; simp
    obtain ⟨g0, g1⟩ := cellsE_get l j p hp
    exact ⟨by rw [hcell _ (by omega), g0], by rw [hcell _ (by omega), g1]⟩
/-- Where a slice lies. -/
def blk (A : Option Addr) : Option Nat := A.map Addr.block
theorem blk_own (A : Option Addr) (n c : Nat) : (Value.slice A n c).ownBlock = blk A := by cases A <;> rfl
theorem GrE.lt {w : World} {base c : Nat} {A : Option Addr} {l : List El} (h : GrE w base A c l) : ∀ k, blk A = some k → base ≤ k ∧ k < w.heap.size := by
  have := World.ownsRow.lt h
  rw [blk_own] at this
  exact this
theorem GrE.below {w w' : World} {base c B : Nat} {A : Option Addr} {l : List El} (h : GrE w base A c l) (hb : Below B w w') (hB : w.heap.size ≤ B) : GrE w' base A c l := by
  refine ⟨h.1, ?_⟩
  rcases h.2 with ⟨e, h0⟩ | ⟨g, cap, cur, e, hb', hc, h1⟩
  · exact .inl ⟨e, h0⟩
  · have := (Array.getElem?_eq_some_iff.1 hc).1
    exact .inr ⟨g, cap, cur, e, hb', (hb.block g (by omega)).trans hc, h1⟩
theorem info24 : (Tryd.prog.info? 24).map (fun i => (i.zero, i.size, i.bytes)) = some (some (.agg #[.int .i64 0, .slice none 0 0]), 2, 32) := by kernel_rfl
theorem oneCell_cellsE (l : List El) : ∀ v ∈ cellsE l, v.oneCell' = true := by
  intro v hv
  obtain ⟨p, _, h⟩ := List.mem_flatMap.1 hv
  simp only [List.mem_cons, List.not_mem_nil, or_false] at h
  rcases h with rfl | rfl <;> rfl
/-- append(out, t): one tree, in a block of its own. Where the new slice lies: where it lay, or in a new block. -/
theorem GrE.one {w : World} {base c : Nat} {A : Option Addr} {l : List El} (h : GrE w base A c l) (r : El) (ty : TypeId) (hb : l.length ≤ 10000000) (hbase : base ≤ w.heap.size) :
    ∃ A' c' w', (Builtin.append_ #[22, 22] ty #[.slice A l.length c, .slice (some ⟨w.heap.size, 0, none⟩) 1 1]).run Tryd.prog (w.alloc (.cells #[.int .i64 r.o, .slice r.A r.n r.c] 24)) = .ok (.slice A' (l.length + 1) c') w' ∧ GrE w' base A' c' (l ++ [r]) ∧ Below base w w' ∧ (∀ k, k < w.heap.size → blk A ≠ some k → w'.heap[k]? = w.heap[k]?) ∧ w.heap.size ≤ w'.heap.size ∧ (blk A' = blk A ∨ ∃ k, blk A' = some k ∧ w.heap.size ≤ k) := by
  obtain ⟨i0, hi, hz0, hz1, hz2⟩ := info_parts info24
  have hB0 : Below base w (w.alloc (.cells #[.int .i64 r.o, .slice r.A r.n r.c] 24)) := (Below.refl _ w).alloc hbase _
  have hBt : Below w.heap.size w (w.alloc (.cells #[.int .i64 r.o, .slice r.A r.n r.c] 24)) := (Below.refl _ w).alloc (Nat.le_refl _) _
  have hcell : ∀ j u, (cellsE [r])[j]? = some u → (w.alloc (.cells #[.int .i64 r.o, .slice r.A r.n r.c] 24)).cell? ((⟨w.heap.size, 0, none⟩ : Addr).add j) = some u := by
    intro j u hu
    have e : (⟨w.heap.size, 0, none⟩ : Addr).add j = ⟨w.heap.size, j, none⟩ := by
      unfold Addr.add; split
      · rename_i h; subst h; rfl
      · simp
    rw [e, cell_of_row _ _ j _ 24 (0, 0) (heap_alloc_new w _)]
    simpa [cellsE] using hu
  obtain ⟨v', w', hrun, ho, hg, hn, hat⟩ := run_append_own_at (P := Tryd.prog) (w.alloc (.cells #[.int .i64 r.o, .slice r.A r.n r.c] 24)) base 22 ty 24 i0 (.agg #[.int .i64 0, .slice none 0 0]) 2 32 Tryd.underlying22 hi hz0 hz1 hz2 rfl (by decide) _ _ _ (h.below hBt (Nat.le_refl _)) _ 1 1 (cellsE [r]) (by simp [cellsE]) hcell (oneCell_cellsE [r]) (by unfold maxLen; omega) (by omega) (by simp; omega)
  have hB : Below base w w' := hB0.grown hg (by simp; omega) (fun k e => by rw [blk_own] at e; exact (h.lt k e).1)
  have e2 : cellsE (l ++ [r]) = cellsE l ++ cellsE [r] := by simp [cellsE]
  have e3 : (l ++ [r]).length = l.length + 1 := by simp
  rw [blk_own] at hg hat
  rcases ho.2 with ⟨e, h0⟩ | ⟨g', cap', cur, e, _⟩
  · omega
  · rw [e] at hrun ho hat
    refine ⟨_, _, w', hrun, by unfold GrE; rw [e2, e3]; exact ho, hB, fun k hk hne => ?_, ?_, ?_⟩
    · exact (hg.block k (by simp; omega) (fun e => hne e.symm)).trans (hBt.block k hk)
    · have := hg.size; simp only [World.size_alloc] at this; omega
    · rw [blk_own] at hat
      rcases hat with hat | hat
      · exact .inl hat
      · exact .inr ⟨_, hat, by simp⟩
theorem GrE.set {w : World} {base c : Nat} {A : Option Addr} {l : List El} (h : GrE w base A c l) {p : Addr} (hp : p.block < base) (u : Value) : GrE (w.setCell p u) base A c l := by
  refine ⟨h.1, ?_⟩
  rcases h.2 with ⟨e, h0⟩ | ⟨g, cap, cur, e, hb', hc, h1⟩
  · exact .inl ⟨e, h0⟩
  · exact .inr ⟨g, cap, cur, e, hb', (Below.heap_setCell w p u g (by omega)).trans hc, h1⟩
/-- Trees of a call's own kids: of the list's elements, in blocks made since, not where the list lies. -/
def KidsIn (w0 : Nat) (w : World) (A : Option Addr) (l : List El) (ks : List Tr) : Prop := l.length = ks.length ∧ ∀ (j : Nat) (e : El) (t : Tr), l[j]? = some e → ks[j]? = some t → InP (fun b => w0 ≤ b ∧ b < w.heap.size ∧ blk A ≠ some b) w t e.v
theorem KidsIn.nil (w0 : Nat) (w : World) (A : Option Addr) : KidsIn w0 w A [] [] := ⟨rfl, fun j e t h => by simp at h⟩
theorem KidsIn.stay {w0 : Nat} {w w' : World} {A : Option Addr} {l : List El} {ks : List Tr} (h : KidsIn w0 w A l ks) (hb : Below w.heap.size w w') : KidsIn w0 w' A l ks :=
  ⟨h.1, fun j e t h1 h2 => ((h.2 j e t h1 h2).stay hb).more fun _ hb' => ⟨hb'.1, Nat.lt_of_lt_of_le hb'.2.1 hb.size, hb'.2.2⟩⟩
theorem KidsIn.set {w0 : Nat} {w : World} {A : Option Addr} {l : List El} {ks : List Tr} (h : KidsIn w0 w A l ks) {g i : Nat} {u : Value} (hg : Box2 w g) : KidsIn w0 (w.setCell ⟨g, i, none⟩ u) A l ks :=
  ⟨h.1, fun j e t h1 h2 => (InP.set2 hg (h.2 j e t h1 h2)).more fun b hb' => ⟨hb'.1, by rw [size_set]; exact hb'.2.1, hb'.2.2⟩⟩
theorem KidsIn.push {w0 : Nat} {w w' : World} {A A' : Option Addr} {l : List El} {ks : List Tr} {e : El} {t : Tr} (h : KidsIn w0 w A l ks) (he : InP (fun b => w0 ≤ b ∧ b < w.heap.size ∧ blk A ≠ some b) w t e.v)
    (hs : ∀ k, k < w.heap.size → blk A ≠ some k → w'.heap[k]? = w.heap[k]?) (hz : w.heap.size ≤ w'.heap.size) (hA : blk A' = blk A ∨ ∃ k, blk A' = some k ∧ w.heap.size ≤ k) : KidsIn w0 w' A' (l ++ [e]) (ks ++ [t]) := by
  have step : ∀ {t : Tr} {v : Value}, InP (fun b => w0 ≤ b ∧ b < w.heap.size ∧ blk A ≠ some b) w t v → InP (fun b => w0 ≤ b ∧ b < w'.heap.size ∧ blk A' ≠ some b) w' t v := fun h =>
    (h.keep fun p v hp hc => (World.cell?_of_block (hs _ hp.2.1 hp.2.2)).trans hc).more fun b hb => ⟨hb.1, Nat.lt_of_lt_of_le hb.2.1 hz, fun e => by
      rcases hA with hA | ⟨k, hA, hk⟩
      · exact hb.2.2 (hA ▸ e)
      · rw [hA] at e; injection e with e; have := hb.2.1; omega⟩
  refine ⟨by simp [h.1], fun j e' t' h1 h2 => ?_⟩
  have hl := h.1
  by_cases hj : j < l.length
  · rw [List.getElem?_append_left hj] at h1
    rw [List.getElem?_append_left (by omega)] at h2
    exact step (h.2 j e' t' h1 h2)
  · have hj2 := (List.getElem?_eq_some_iff.1 h1).1
    simp only [List.length_append, List.length_cons, List.length_nil] at hj2
    obtain rfl : j = l.length := by omega
    rw [List.getElem?_append_right (Nat.le_refl _), Nat.sub_self] at h1
    rw [List.getElem?_append_right (by omega), hl, Nat.sub_self] at h2
    simp at h1 h2
    subst h1; subst h2
    exact step he
/-- Two kids in a list of the call's own make a node. -/
theorem node_of {w0 base c : Nat} {w : World} {A : Option Addr} {l : List El} {x y : Tr} {n : Int} (h : GrE w base A c l) (hk : KidsIn w0 w A l [x, y]) (hb : w0 ≤ base) : InP (fun b => w0 ≤ b ∧ b < w.heap.size) w (.node n x y) (tv n A l.length c) := by
  have hl : l.length = 2 := hk.1
  obtain ⟨g, rfl, h1, h2, hc⟩ := h.cells (by omega)
  rw [hl]
  have e0 : l[0]? = some (l[0]'(by omega)) := List.getElem?_eq_getElem _
  have e1 : l[1]? = some (l[1]'(by omega)) := List.getElem?_eq_getElem _
  have k0 := hk.2 0 _ x e0 rfl
  have k1 := hk.2 1 _ y e1 rfl
  have c0 := hc 0 _ e0
  have c1 := hc 1 _ e1
  exact ⟨g, 0, c, rfl, ⟨by omega, h2⟩, ⟨_, _, _, _, c0.1, c0.2, k0.more fun b hb => ⟨hb.1, hb.2.1⟩⟩, ⟨_, _, _, _, c1.1, c1.2, k1.more fun b hb => ⟨hb.1, hb.2.1⟩⟩⟩
end Go.Proofs.YtflghlmikpfnpaaDoor.E
