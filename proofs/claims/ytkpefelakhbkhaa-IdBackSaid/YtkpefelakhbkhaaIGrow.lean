/-
  Slices of bytes that the call itself makes and lengthens, nil let in.
-/
import Derived.Test.YtkpefelakhbkhaaIOwn
namespace Go.Proofs.Ytkpefelakhbkhaa.I
open Go.RowKit

/-- A slice of bytes of the call's own that holds l, nil if it holds none. -/
def Gr (w : World) (base : Nat) (A : Option Addr) (c : Nat) (l : List Nat) : Prop := w.ownsRow base 5 1 (.slice A l.length c) l.length (cellsB l)
theorem Gr.nil (w : World) (base : Nat) : Gr w base none 0 [] := ⟨by simp [cellsB], .inl ⟨rfl, rfl⟩⟩
theorem Gr.cases {w : World} {base : Nat} {A : Option Addr} {c : Nat} {l : List Nat} (h : Gr w base A c l) : (A = none ∧ l = [] ∧ c = 0) ∨ ∃ g, A = some ⟨g, 0, none⟩ ∧ OwnB w base g c l := by
  have h' := h
  rcases h.2 with ⟨e, h0⟩ | ⟨g, cap, cur, e, hb, hc, h1, h2, h3, h4⟩
  · injection e with e1 e2 e3
    exact .inl ⟨e1, List.eq_nil_of_length_eq_zero e2, e3⟩
  · injection e with e1 e2 e3
    subst e1; subst e3
    exact .inr ⟨g, rfl, h'⟩
theorem Gr.of {w : World} {base g c : Nat} {l : List Nat} (h : OwnB w base g c l) : Gr w base (some ⟨g, 0, none⟩) c l := h
theorem Gr.row {w : World} {base c : Nat} {A : Option Addr} {l : List Nat} (h : Gr w base A c l) (hl : ∀ x ∈ l, x < 256) : Row w w.heap.size A l := by
  rcases h.cases with ⟨rfl, rfl, rfl⟩ | ⟨g, rfl, ho⟩
  · exact Row.none_ _ _ _
  · exact ho.row hl ho.lt.2
theorem Gr.own {w : World} {base c : Nat} {A : Option Addr} {l : List Nat} (h : Gr w base A c l) : ∀ k, (Value.slice A l.length c).ownBlock = some k → base ≤ k := by
  rcases h.cases with ⟨rfl, rfl, rfl⟩ | ⟨g, rfl, ho⟩
  · intro k e; simp [Value.ownBlock] at e
  · intro k e
    simp only [Value.ownBlock, Option.some.injEq] at e
    subst e
    exact ho.lt.1
theorem Gr.lt {w : World} {base c : Nat} {A : Option Addr} {l : List Nat} (h : Gr w base A c l) : ∀ k, (Value.slice A l.length c).ownBlock = some k → k < w.heap.size := by
  rcases h.cases with ⟨rfl, rfl, rfl⟩ | ⟨g, rfl, ho⟩
  · intro k e; simp [Value.ownBlock] at e
  · intro k e
    simp only [Value.ownBlock, Option.some.injEq] at e
    subst e
    exact ho.lt.2
theorem Gr.kept {w w' : World} {base c : Nat} {A : Option Addr} {l : List Nat} {row : Option Nat} (h : Gr w base A c l) (hg : w.grownBy w' row) (hne : ∀ k, row = some k → (Value.slice A l.length c).ownBlock ≠ some k) : Gr w' base A c l := by
  rcases h.cases with ⟨rfl, rfl, rfl⟩ | ⟨g, rfl, ho⟩
  · exact Gr.nil _ _
  · exact Gr.of (ho.kept hg (fun e => hne g e.symm rfl))
theorem Gr.alloc {w : World} {base c : Nat} {A : Option Addr} {l : List Nat} (h : Gr w base A c l) (o : Obj) : Gr (w.alloc o) base A c l := h.kept (World.grownBy_alloc w o none) (by simp)
theorem Gr.below {w w' : World} {base c B : Nat} {A : Option Addr} {l : List Nat} (h : Gr w base A c l) (hb : Below B w w') (hB : w.heap.size ≤ B) : Gr w' base A c l := by
  rcases h.cases with ⟨rfl, rfl, rfl⟩ | ⟨g, rfl, ho⟩
  · exact Gr.nil _ _
  · exact Gr.of (ho.below hb (by have := ho.lt.2; omega))
theorem Gr.lower {w : World} {base base' c : Nat} {A : Option Addr} {l : List Nat} (h : Gr w base A c l) (hb : base' ≤ base) : Gr w base' A c l := by
  rcases h.cases with ⟨rfl, rfl, rfl⟩ | ⟨g, rfl, ho⟩
  · exact Gr.nil _ _
  · exact Gr.of (ho.lower hb)
/-- append(out, x...). -/
theorem Gr.append {w : World} {base c : Nat} {A : Option Addr} {l : List Nat} (h : Gr w base A c l) (b : Nat) (d : Nat) (x : List Nat) (B : Nat) (hr : Row w B (some ⟨b, 0, none⟩) x) (ty : TypeId) (hb : l.length + x.length ≤ 200000000000000) (hbase : base ≤ w.heap.size) :
    ∃ A' c' w', (Builtin.append_ #[40, 40] ty #[.slice A l.length c, .slice (some ⟨b, 0, none⟩) x.length d]).run Try.prog w = .ok (.slice A' (l.length + x.length) c') w' ∧ Gr w' base A' c' (l ++ x) ∧ Below base w w' := by
  obtain ⟨i0, hi, hz0, hz1, hz2⟩ := info_parts info5
  obtain ⟨v', w', hrun, ho, hg, hn⟩ := run_append_own_wide (P := Try.prog) w base 40 ty 5 i0 (.int .u8 0) 1 1 Try.underlying40 hi hz0 hz1 hz2 rfl (by decide) _ _ _ h _ x.length d (cellsB x) (by rw [cellsB_length, Nat.mul_one]) (row_cells hr _ rfl) (oneCell_cellsB x) (by unfold maxLen; omega) (by omega) hbase
  have hB : Below base w w' := (Below.refl _ w).grown hg hbase h.own
  have e2 : cellsB (l ++ x) = cellsB l ++ cellsB x := by simp [cellsB]
  have e3 : (l ++ x).length = l.length + x.length := List.length_append
  rcases ho.2 with ⟨e, h0⟩ | ⟨g', cap', cur, e, _⟩
  · rw [e] at hrun
    refine ⟨none, 0, w', by rw [hrun, h0], ?_, hB⟩
    unfold Gr
    rw [e2, e3]
    rw [e] at ho
    rw [h0] at ho ⊢
    exact ho
  · rw [e] at hrun ho
    exact ⟨_, _, w', hrun, by unfold Gr; rw [e2, e3]; exact ho, hB⟩
theorem row_one (w : World) (x : Nat) (hx : x < 256) : Row (w.alloc (.cells #[.int .u8 (x : Int)] 5)) (w.heap.size + 1) (some ⟨w.heap.size, 0, none⟩) [x] :=
  Blok.row (g := w.heap.size) (l := [x]) (by have := Blok.new w 5 (cellsB [x]); simpa [cellsB] using this) (by simpa using hx) (by omega)
theorem row_two (w : World) (x y : Nat) (hx : x < 256) (hy : y < 256) : Row (w.alloc (.cells #[.int .u8 (x : Int), .int .u8 (y : Int)] 5)) (w.heap.size + 1) (some ⟨w.heap.size, 0, none⟩) [x, y] :=
  Blok.row (g := w.heap.size) (l := [x, y]) (by have := Blok.new w 5 (cellsB [x, y]); simpa [cellsB] using this) (by simp; exact ⟨hx, hy⟩) (by omega)
/-- append(out, x): one byte, in a block of its own. -/
theorem Gr.one {w : World} {base c : Nat} {A : Option Addr} {l : List Nat} (h : Gr w base A c l) (x : Nat) (hx : x < 256) (ty : TypeId) (hb : l.length ≤ 199999999999999) (hbase : base ≤ w.heap.size) :
    ∃ A' c' w', (Builtin.append_ #[40, 40] ty #[.slice A l.length c, .slice (some ⟨w.heap.size, 0, none⟩) 1 1]).run Try.prog (w.alloc (.cells #[.int .u8 (x : Int)] 5)) = .ok (.slice A' (l.length + 1) c') w' ∧ Gr w' base A' c' (l ++ [x]) ∧ Below base w w' := by
  obtain ⟨A', c', w', h1, h2, h3⟩ := (h.alloc (.cells #[.int .u8 (x : Int)] 5)).append w.heap.size 1 [x] _ (row_one w x hx) ty (by simp; omega) (by simp; omega)
  exact ⟨A', c', w', h1, h2, ((Below.refl _ w).alloc hbase _).trans h3⟩
theorem Gr.two {w : World} {base c : Nat} {A : Option Addr} {l : List Nat} (h : Gr w base A c l) (x y : Nat) (hx : x < 256) (hy : y < 256) (ty : TypeId) (hb : l.length ≤ 199999999999998) (hbase : base ≤ w.heap.size) :
    ∃ A' c' w', (Builtin.append_ #[40, 40] ty #[.slice A l.length c, .slice (some ⟨w.heap.size, 0, none⟩) 2 2]).run Try.prog (w.alloc (.cells #[.int .u8 (x : Int), .int .u8 (y : Int)] 5)) = .ok (.slice A' (l.length + 2) c') w' ∧ Gr w' base A' c' (l ++ [x, y]) ∧ Below base w w' := by
  obtain ⟨A', c', w', h1, h2, h3⟩ := (h.alloc (.cells #[.int .u8 (x : Int), .int .u8 (y : Int)] 5)).append w.heap.size 2 [x, y] _ (row_two w x y hx hy) ty (by simp; omega) (by simp; omega)
  exact ⟨A', c', w', h1, h2, ((Below.refl _ w).alloc hbase _).trans h3⟩

end Go.Proofs.Ytkpefelakhbkhaa.I
