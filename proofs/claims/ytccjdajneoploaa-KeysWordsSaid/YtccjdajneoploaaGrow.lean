/-
  Slices that the call itself makes and lengthens, nil let in: bytes and parts.
-/
import Derived.Test.YtccjdajneoploaaOwn
import Derived.Test.YtccjdajneoploaaRCmp
namespace Go.Proofs.Ytccjdajneoploaa
open Go.RowKit

/-- A slice of bytes of the call's own that holds l, nil if it holds none. -/
def Gr (w : World) (base : Nat) (A : Option Addr) (c : Nat) (l : List Nat) : Prop := w.ownsRow base 5 1 (.slice A l.length c) l.length (cellsB l)
theorem Gr.nil (w : World) (base : Nat) : Gr w base none 0 [] := ⟨by simp [cellsB], .inl ⟨rfl, rfl⟩⟩
theorem Gr.cases {w : World} {base : Nat} {A : Option Addr} {c : Nat} {l : List Nat} (h : Gr w base A c l) : (A = none ∧ l = [] ∧ c = 0) ∨ ∃ g, A = some ⟨g, 0, none⟩ ∧ OwnB w base g c l := by
  have h' := h
  rcases h.2 with ⟨e, h0⟩ | ⟨g, cap, cur, e, hb, hc, h1, h2, h3, h4⟩
  · injection e with e1 e2 e3
    exact .inl ⟨e1, List.eq_nil_of_length_eq_zero e2, e3⟩
  · injection e with e1 e2 e3
    subst e1; subst e3
    exact .inr ⟨g, rfl, h'⟩
theorem Gr.of {w : World} {base g c : Nat} {l : List Nat} (h : OwnB w base g c l) : Gr w base (some ⟨g, 0, none⟩) c l := h
theorem Gr.row {w : World} {base c : Nat} {A : Option Addr} {l : List Nat} (h : Gr w base A c l) (hl : ∀ x ∈ l, x < 256) : Row w w.heap.size A l := by
  rcases h.cases with ⟨rfl, rfl, rfl⟩ | ⟨g, rfl, ho⟩
  · exact Row.none_ _ _ _
  · exact ho.row hl ho.lt.2
theorem Gr.own {w : World} {base c : Nat} {A : Option Addr} {l : List Nat} (h : Gr w base A c l) : ∀ k, (Value.slice A l.length c).ownBlock = some k → base ≤ k := by
  rcases h.cases with ⟨rfl, rfl, rfl⟩ | ⟨g, rfl, ho⟩
  · intro k e; simp [Value.ownBlock] at e
  · intro k e
    simp only [Value.ownBlock, Option.some.injEq] at e
    subst e
    exact ho.lt.1
theorem Gr.lt {w : World} {base c : Nat} {A : Option Addr} {l : List Nat} (h : Gr w base A c l) : ∀ k, (Value.slice A l.length c).ownBlock = some k → k < w.heap.size := by
  rcases h.cases with ⟨rfl, rfl, rfl⟩ | ⟨g, rfl, ho⟩
  · intro k e; simp [Value.ownBlock] at e
  · intro k e
    simp only [Value.ownBlock, Option.some.injEq] at e
    subst e
    exact ho.lt.2
theorem Gr.kept {w w' : World} {base c : Nat} {A : Option Addr} {l : List Nat} {row : Option Nat} (h : Gr w base A c l) (hg : w.grownBy w' row) (hne : ∀ k, row = some k → (Value.slice A l.length c).ownBlock ≠ some k) : Gr w' base A c l := by
  rcases h.cases with ⟨rfl, rfl, rfl⟩ | ⟨g, rfl, ho⟩
  · exact Gr.nil _ _
  · exact Gr.of (ho.kept hg (fun e => hne g e.symm rfl))
theorem Gr.alloc {w : World} {base c : Nat} {A : Option Addr} {l : List Nat} (h : Gr w base A c l) (o : Obj) : Gr (w.alloc o) base A c l := h.kept (World.grownBy_alloc w o none) (by simp)
theorem Gr.below {w w' : World} {base c B : Nat} {A : Option Addr} {l : List Nat} (h : Gr w base A c l) (hb : Below B w w') (hB : w.heap.size ≤ B) : Gr w' base A c l := by
  rcases h.cases with ⟨rfl, rfl, rfl⟩ | ⟨g, rfl, ho⟩
  · exact Gr.nil _ _
  · exact Gr.of (ho.below hb (by have := ho.lt.2; omega))
theorem Gr.lower {w : World} {base base' c : Nat} {A : Option Addr} {l : List Nat} (h : Gr w base A c l) (hb : base' ≤ base) : Gr w base' A c l := by
  rcases h.cases with ⟨rfl, rfl, rfl⟩ | ⟨g, rfl, ho⟩
  · exact Gr.nil _ _
  · exact Gr.of (ho.lower hb)
/-- append(out, x...). -/
theorem Gr.append {w : World} {base c : Nat} {A : Option Addr} {l : List Nat} (h : Gr w base A c l) (b : Nat) (d : Nat) (x : List Nat) (B : Nat) (hr : Row w B (some ⟨b, 0, none⟩) x) (ty : TypeId) (hb : l.length + x.length ≤ 200000000000000) (hbase : base ≤ w.heap.size) :
    ∃ A' c' w', (Builtin.append_ #[42, 42] ty #[.slice A l.length c, .slice (some ⟨b, 0, none⟩) x.length d]).run Try.prog w = .ok (.slice A' (l.length + x.length) c') w' ∧ Gr w' base A' c' (l ++ x) ∧ Below base w w' := by
  obtain ⟨i0, hi, hz0, hz1, hz2⟩ := info_parts info5
  obtain ⟨v', w', hrun, ho, hg, hn⟩ := run_append_own_wide (P := Try.prog) w base 42 ty 5 i0 (.int .u8 0) 1 1 Try.underlying42 hi hz0 hz1 hz2 rfl (by decide) _ _ _ h _ x.length d (cellsB x) (by rw [cellsB_length, Nat.mul_one]) (row_cells hr _ rfl) (oneCell_cellsB x) (by unfold maxLen; omega) (by omega) hbase
  have hB : Below base w w' := (Below.refl _ w).grown hg hbase h.own
  have e2 : cellsB (l ++ x) = cellsB l ++ cellsB x := by simp [cellsB]
  have e3 : (l ++ x).length = l.length + x.length := List.length_append
  rcases ho.2 with ⟨e, h0⟩ | ⟨g', cap', cur, e, _⟩
  · rw [e] at hrun
    refine ⟨none, 0, w', by rw [hrun, h0], ?_, hB⟩
    unfold Gr
    rw [e2, e3]
    rw [e] at ho
    rw [h0] at ho ⊢
    exact ho
  · rw [e] at hrun ho
    exact ⟨_, _, w', hrun, by unfold Gr; rw [e2, e3]; exact ho, hB⟩
theorem row_one (w : World) (x : Nat) (hx : x < 256) : Row (w.alloc (.cells #[.int .u8 (x : Int)] 5)) (w.heap.size + 1) (some ⟨w.heap.size, 0, none⟩) [x] :=
  Blok.row (g := w.heap.size) (l := [x]) (by have := Blok.new w 5 (cellsB [x]); simpa [cellsB] using this) (by simpa using hx) (by omega)
theorem row_two (w : World) (x y : Nat) (hx : x < 256) (hy : y < 256) : Row (w.alloc (.cells #[.int .u8 (x : Int), .int .u8 (y : Int)] 5)) (w.heap.size + 1) (some ⟨w.heap.size, 0, none⟩) [x, y] :=
  Blok.row (g := w.heap.size) (l := [x, y]) (by have := Blok.new w 5 (cellsB [x, y]); simpa [cellsB] using this) (by simp; exact ⟨hx, hy⟩) (by omega)
/-- append(out, x): one byte, in a block of its own. -/
theorem Gr.one {w : World} {base c : Nat} {A : Option Addr} {l : List Nat} (h : Gr w base A c l) (x : Nat) (hx : x < 256) (ty : TypeId) (hb : l.length ≤ 199999999999999) (hbase : base ≤ w.heap.size) :
    ∃ A' c' w', (Builtin.append_ #[42, 42] ty #[.slice A l.length c, .slice (some ⟨w.heap.size, 0, none⟩) 1 1]).run Try.prog (w.alloc (.cells #[.int .u8 (x : Int)] 5)) = .ok (.slice A' (l.length + 1) c') w' ∧ Gr w' base A' c' (l ++ [x]) ∧ Below base w w' := by
  obtain ⟨A', c', w', h1, h2, h3⟩ := (h.alloc (.cells #[.int .u8 (x : Int)] 5)).append w.heap.size 1 [x] _ (row_one w x hx) ty (by simp; omega) (by simp; omega)
  exact ⟨A', c', w', h1, h2, ((Below.refl _ w).alloc hbase _).trans h3⟩
theorem Gr.two {w : World} {base c : Nat} {A : Option Addr} {l : List Nat} (h : Gr w base A c l) (x y : Nat) (hx : x < 256) (hy : y < 256) (ty : TypeId) (hb : l.length ≤ 199999999999998) (hbase : base ≤ w.heap.size) :
    ∃ A' c' w', (Builtin.append_ #[42, 42] ty #[.slice A l.length c, .slice (some ⟨w.heap.size, 0, none⟩) 2 2]).run Try.prog (w.alloc (.cells #[.int .u8 (x : Int), .int .u8 (y : Int)] 5)) = .ok (.slice A' (l.length + 2) c') w' ∧ Gr w' base A' c' (l ++ [x, y]) ∧ Below base w w' := by
  obtain ⟨A', c', w', h1, h2, h3⟩ := (h.alloc (.cells #[.int .u8 (x : Int), .int .u8 (y : Int)] 5)).append w.heap.size 2 [x, y] _ (row_two w x y hx hy) ty (by simp; omega) (by simp; omega)
  exact ⟨A', c', w', h1, h2, ((Below.refl _ w).alloc hbase _).trans h3⟩

/-- Parts as cells; a slice of parts of the call's own, nil if it holds none. -/
def cellsP (l : List Part) : List Value := l.flatMap fun p => [.bool p.t, .int .u64 (p.n : Int), .string p.s]
theorem cellsP_length (l : List Part) : (cellsP l).length = l.length * 3 := by
  induction l with
  | nil => rfl
  | cons p t ih => simp [cellsP] at ih ⊢; omega
theorem cellsP_get : ∀ (l : List Part) (j : Nat) (p : Part), l[j]? = some p → (cellsP l)[j * 3]? = some (.bool p.t) ∧ (cellsP l)[j * 3 + 1]? = some (.int .u64 (p.n : Int)) ∧ (cellsP l)[j * 3 + 2]? = some (.string p.s)
  | [], j, p, h => by simp at h
  | q :: t, 0, p, h => by simp at h; subst h; simp [cellsP]
  | q :: t, j + 1, p, h => by
    have ih := cellsP_get t j p (by simpa using h)
    have e : cellsP (q :: t) = .bool q.t :: .int .u64 (q.n : Int) :: .string q.s :: cellsP t := by simp [cellsP]
    rw [e, show (j + 1) * 3 = j * 3 + 1 + 1 + 1 by omega]
    simp only [List.getElem?_cons_succ]
    exact ih
def GrP (w : World) (base : Nat) (A : Option Addr) (c : Nat) (l : List Part) : Prop := w.ownsRow base 41 3 (.slice A l.length c) l.length (cellsP l)
theorem GrP.nil (w : World) (base : Nat) : GrP w base none 0 [] := ⟨by simp [cellsP], .inl ⟨rfl, rfl⟩⟩
theorem GrP.cases {w : World} {base : Nat} {A : Option Addr} {c : Nat} {l : List Part} (h : GrP w base A c l) : (A = none ∧ l = [] ∧ c = 0) ∨ ∃ g cur, A = some ⟨g, 0, none⟩ ∧ base ≤ g ∧ w.heap[g]? = some (.cells cur 41 (0, 0)) ∧ l.length ≤ c ∧ c ≤ maxLen ∧ cur.size = c * 3 ∧ cur.toList.take (l.length * 3) = cellsP l := by
  rcases h.2 with ⟨e, h0⟩ | ⟨g, cap, cur, e, hb, hc, h1, h2, h3, h4⟩
  · injection e with e1 e2 e3
    exact .inl ⟨e1, List.eq_nil_of_length_eq_zero e2, e3⟩
  · injection e with e1 e2 e3
    subst e1; subst e3
    exact .inr ⟨g, cur, rfl, hb, hc, h1, h2, h3, h4⟩
theorem GrP.row {w : World} {base c : Nat} {A : Option Addr} {l : List Part} (h : GrP w base A c l) (hl : ∀ p ∈ l, p.n < 18446744073709551616) : RowP w w.heap.size A l := by
  rcases h.cases with ⟨rfl, rfl, rfl⟩ | ⟨g, cur, rfl, hb, hc, h1, h2, h3, h4⟩
  · exact RowP.none_ _ _ _
  · refine ⟨hl, fun _ => ⟨g, 0, rfl, (Array.getElem?_eq_some_iff.1 hc).1, fun j p hp => ?_⟩⟩
    have hj := (List.getElem?_eq_some_iff.1 hp).1
    have hcell : ∀ k, k < l.length * 3 → w.cell? ⟨g, k, none⟩ = (cellsP l)[k]? := fun k hk => by
      rw [cell_of_row w g k cur 41 (0, 0) hc, ← h4, List.getElem?_take, if_pos hk]; simp
    obtain ⟨g0, g1, g2⟩ := cellsP_get l j p hp
    refine ⟨?_, ?_, ?_⟩
    · rw [Nat.zero_add, hcell _ (by omega), g0]
    · rw [Nat.zero_add, hcell _ (by omega), g1]
    · rw [Nat.zero_add, hcell _ (by omega), g2]
theorem GrP.own {w : World} {base c : Nat} {A : Option Addr} {l : List Part} (h : GrP w base A c l) : ∀ k, (Value.slice A l.length c).ownBlock = some k → base ≤ k ∧ k < w.heap.size := by
  rcases h.cases with ⟨rfl, rfl, rfl⟩ | ⟨g, cur, rfl, hb, hc, _⟩
  · intro k e; simp [Value.ownBlock] at e
  · intro k e
    simp only [Value.ownBlock, Option.some.injEq] at e
    subst e
    exact ⟨hb, (Array.getElem?_eq_some_iff.1 hc).1⟩
theorem GrP.below {w w' : World} {base c B : Nat} {A : Option Addr} {l : List Part} (h : GrP w base A c l) (hb : Below B w w') (hB : w.heap.size ≤ B) : GrP w' base A c l := by
  refine ⟨h.1, ?_⟩
  rcases h.2 with ⟨e, h0⟩ | ⟨g, cap, cur, e, hb', hc, h1⟩
  · exact .inl ⟨e, h0⟩
  · have := (Array.getElem?_eq_some_iff.1 hc).1
    exact .inr ⟨g, cap, cur, e, hb', (hb.block g (by omega)).trans hc, h1⟩
theorem info41 : (Try.prog.info? 41).map (fun i => (i.zero, i.size, i.bytes)) = some (some (.agg #[.bool false, .int .u64 0, .string ⟨#[]⟩]), 3, 32) := by kernel_rfl
theorem oneCell_cellsP (l : List Part) : ∀ v ∈ cellsP l, v.oneCell' = true := by
  intro v hv
  obtain ⟨p, _, h⟩ := List.mem_flatMap.1 hv
  simp only [List.mem_cons, List.not_mem_nil, or_false] at h
  rcases h with rfl | rfl | rfl <;> rfl
/-- append(parts, p): one part, in a block of its own. -/
theorem GrP.one {w : World} {base c : Nat} {A : Option Addr} {l : List Part} (h : GrP w base A c l) (p : Part) (ty : TypeId) (hb : l.length ≤ 1000) (hbase : base ≤ w.heap.size) :
    ∃ A' c' w', (Builtin.append_ #[22, 22] ty #[.slice A l.length c, .slice (some ⟨w.heap.size, 0, none⟩) 1 1]).run Try.prog (w.alloc (.cells #[.bool p.t, .int .u64 (p.n : Int), .string p.s] 41)) = .ok (.slice A' (l.length + 1) c') w' ∧ GrP w' base A' c' (l ++ [p]) ∧ Below base w w' := by
  obtain ⟨i0, hi, hz0, hz1, hz2⟩ := info_parts info41
  have hB0 : Below base w (w.alloc (.cells #[.bool p.t, .int .u64 (p.n : Int), .string p.s] 41)) := (Below.refl _ w).alloc hbase _
  have hBt : Below w.heap.size w (w.alloc (.cells #[.bool p.t, .int .u64 (p.n : Int), .string p.s] 41)) := (Below.refl _ w).alloc (Nat.le_refl _) _
  have hcell : ∀ j u, (cellsP [p])[j]? = some u → (w.alloc (.cells #[.bool p.t, .int .u64 (p.n : Int), .string p.s] 41)).cell? ((⟨w.heap.size, 0, none⟩ : Addr).add j) = some u := by
    intro j u hu
    have e : (⟨w.heap.size, 0, none⟩ : Addr).add j = ⟨w.heap.size, j, none⟩ := by
      unfold Addr.add; split
      · rename_i h; subst h; rfl
      · simp
    rw [e, cell_of_row _ _ j _ 41 (0, 0) (heap_alloc_new w _)]
    simpa [cellsP] using hu
  obtain ⟨v', w', hrun, ho, hg, hn⟩ := run_append_own_wide (P := Try.prog) (w.alloc (.cells #[.bool p.t, .int .u64 (p.n : Int), .string p.s] 41)) base 22 ty 41 i0 (.agg #[.bool false, .int .u64 0, .string ⟨#[]⟩]) 3 32 Try.underlying22 hi hz0 hz1 hz2 rfl (by decide) _ _ _ (h.below hBt (Nat.le_refl _)) _ 1 1 (cellsP [p]) (by simp [cellsP]) hcell (oneCell_cellsP [p]) (by unfold maxLen; omega) (by omega) (by simp; omega)
  have hB : Below base w w' := hB0.grown hg (by simp; omega) (fun k e => (h.own k e).1)
  have e2 : cellsP (l ++ [p]) = cellsP l ++ cellsP [p] := by simp [cellsP]
  have e3 : (l ++ [p]).length = l.length + 1 := by simp
  rcases ho.2 with ⟨e, h0⟩ | ⟨g', cap', cur, e, _⟩
  · omega
  · rw [e] at hrun ho
    exact ⟨_, _, w', hrun, by unfold GrP; rw [e2, e3]; exact ho, hB⟩
end Go.Proofs.Ytccjdajneoploaa
