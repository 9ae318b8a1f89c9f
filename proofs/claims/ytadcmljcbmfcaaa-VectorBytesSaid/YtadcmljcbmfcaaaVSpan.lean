/-
  Spans: slices of the call's own; the program's Lack.
-/
import Derived.Test.YtadcmljcbmfcaaaVMeet2
namespace Go.Proofs.Ytadcmljcbmfcaaa.V
open Go.RowKit Go.Shelf
set_option linter.unusedVariables false
set_option linter.unusedSimpArgs false
attribute [local go_sem] Oper.semAt_some

/-- A slice of dots' cells. -/
def RowS (w : World) (B : Nat) (A : Option Addr) (l : List T) : Prop :=
  0 < l.length → ∃ b off, A = some ⟨b, off, none⟩ ∧ b < B ∧ ∀ j d, l[j]? = some d → w.cell? ⟨b, off + j * 3, none⟩ = some (.string d.1) ∧ w.cell? ⟨b, off + j * 3 + 1, none⟩ = some (.int .i64 d.2.1) ∧ w.cell? ⟨b, off + j * 3 + 2, none⟩ = some (.int .i64 d.2.2)
theorem RowS.none_ (w : World) (B : Nat) (A : Option Addr) : RowS w B A [] := fun h => absurd h (by simp)
theorem RowS.keep {w w' : World} {B : Nat} {A : Option Addr} {l : List T} (h : RowS w B A l) (hk : ∀ (p : Addr) (v : Value), p.block < B → w.cell? p = some v → w'.cell? p = some v) : RowS w' B A l :=
  fun hn => by obtain ⟨b, off, e, hl, hc⟩ := h hn; exact ⟨b, off, e, hl, fun j p hj => ⟨hk _ _ hl (hc j p hj).1, hk _ _ hl (hc j p hj).2.1, hk _ _ hl (hc j p hj).2.2⟩⟩
theorem RowS.below {w w' : World} {B : Nat} {A : Option Addr} {l : List T} (h : RowS w B A l) (hb : Below B w w') : RowS w' B A l := h.keep fun _ _ hl hc => (hb.cell hl).trans hc
theorem RowS.more {w : World} {B B' : Nat} {A : Option Addr} {l : List T} (h : RowS w B A l) (hB : B ≤ B') : RowS w B' A l := fun hn => by obtain ⟨b, off, e, hb, hc⟩ := h hn; exact ⟨b, off, e, by omega, hc⟩
theorem RowS.up {w w' : World} {A : Option Addr} {l : List T} (h : RowS w w.heap.size A l) (hb : Below w.heap.size w w') : RowS w' w'.heap.size A l := (h.below hb).more hb.size
theorem RowS.at {w : World} {B : Nat} {A : Option Addr} {l : List T} (h : RowS w B A l) (j : Nat) (hj : j < l.length) : ∃ b off, A = some ⟨b, off, none⟩ ∧ b < B ∧ w.cell? ⟨b, off + j * 3, none⟩ = some (.string (l[j]'hj).1) ∧ w.cell? ⟨b, off + j * 3 + 1, none⟩ = some (.int .i64 (l[j]'hj).2.1) ∧ w.cell? ⟨b, off + j * 3 + 2, none⟩ = some (.int .i64 (l[j]'hj).2.2) := by
  obtain ⟨b, off, e, hb, hc⟩ := h (by omega)
  exact ⟨b, off, e, hb, hc j _ (List.getElem?_eq_getElem hj)⟩
/-- A slice of dots of the call's own. -/
def cellsS (l : List T) : List Value := l.flatMap fun d => [.string d.1, .int .i64 d.2.1, .int .i64 d.2.2]
theorem cellsS_length (l : List T) : (cellsS l).length = l.length * 3 := by
  induction l with
  | nil => rfl
  | cons p t ih => simp [cellsS] at ih ⊢; omega
theorem cellsS_get : ∀ (l : List T) (j : Nat) (r : T), l[j]? = some r → (cellsS l)[j * 3]? = some (.string r.1) ∧ (cellsS l)[j * 3 + 1]? = some (.int .i64 r.2.1) ∧ (cellsS l)[j * 3 + 2]? = some (.int .i64 r.2.2)
  | [], j, p, h => by simp at h
  | q :: t, 0, p, h => by simp at h; subst h; simp [cellsS]
  | q :: t, j + 1, p, h => by
    have ih := cellsS_get t j p (by simpa using h)
    have e : cellsS (q :: t) = .string q.1 :: .int .i64 q.2.1 :: .int .i64 q.2.2 :: cellsS t := by simp [cellsS]
    rw [e, show (j + 1) * 3 = j * 3 + 1 + 1 + 1 by omega]
    simp only [List.getElem?_cons_succ]
    exact ih
def GrS (w : World) (base : Nat) (A : Option Addr) (c : Nat) (l : List T) : Prop := w.ownsRow base 51 3 (.slice A l.length c) l.length (cellsS l)
theorem GrS.nil (w : World) (base : Nat) : GrS w base none 0 [] := ⟨by simp [cellsS], .inl ⟨rfl, rfl⟩⟩
theorem GrS.cases {w : World} {base : Nat} {A : Option Addr} {c : Nat} {l : List T} (h : GrS w base A c l) : (A = none ∧ l = [] ∧ c = 0) ∨ ∃ g cur, A = some ⟨g, 0, none⟩ ∧ base ≤ g ∧ w.heap[g]? = some (.cells cur 51 (0, 0)) ∧ l.length ≤ c ∧ c ≤ maxLen ∧ cur.size = c * 3 ∧ cur.toList.take (l.length * 3) = cellsS l := by
  rcases h.2 with ⟨e, h0⟩ | ⟨g, cap, cur, e, hb, hc, h1, h2, h3, h4⟩
  · injection e with e1 e2 e3
    exact .inl ⟨e1, List.eq_nil_of_length_eq_zero e2, e3⟩
  · injection e with e1 e2 e3
    subst e1; subst e3
    exact .inr ⟨g, cur, rfl, hb, hc, h1, h2, h3, h4⟩
theorem GrS.row {w : World} {base c : Nat} {A : Option Addr} {l : List T} (h : GrS w base A c l) : RowS w w.heap.size A l := by
  rcases h.cases with ⟨rfl, rfl, rfl⟩ | ⟨g, cur, rfl, hb, hc, h1, h2, h3, h4⟩
  · exact fun h => absurd h (by simp)
  · refine fun _ => ⟨g, 0, rfl, (Array.getElem?_eq_some_iff.1 hc).1, fun j p hp => ?_⟩
    have hj := (List.getElem?_eq_some_iff.1 hp).1
    have hcell : ∀ k, k < l.length * 3 → w.cell? ⟨g, k, none⟩ = (cellsS l)[k]? := fun k hk => by
      rw [cell_of_row w g k cur 51 (0, 0) hc, ← h4, List.getElem?_take, if_pos hk]; simp
    obtain ⟨g0, g1, g2⟩ := cellsS_get l j p hp
    exact ⟨by rw [Nat.zero_add, hcell _ (by omega), g0], by rw [Nat.zero_add, hcell _ (by omega), g1], by rw [Nat.zero_add, hcell _ (by omega), g2]⟩
theorem GrS.cap {w : World} {base c : Nat} {A : Option Addr} {l : List T} (h : GrS w base A c l) : l.length ≤ c ∧ c ≤ maxLen := by
  rcases h.cases with ⟨rfl, rfl, rfl⟩ | ⟨g, cur, rfl, hb, hc, h1, h2, h3, h4⟩
  · exact ⟨by simp, by unfold maxLen; omega⟩
  · exact ⟨h1, h2⟩
theorem GrS.lt {w : World} {base c : Nat} {A : Option Addr} {l : List T} (h : GrS w base A c l) : ∀ k, blk A = some k → base ≤ k ∧ k < w.heap.size := by
  have := World.ownsRow.lt h
  rw [blk_own] at this
  exact this
theorem GrS.below {w w' : World} {base c B : Nat} {A : Option Addr} {l : List T} (h : GrS w base A c l) (hb : Below B w w') (hB : w.heap.size ≤ B) : GrS w' base A c l := by
  refine ⟨h.1, ?_⟩
  rcases h.2 with ⟨e, h0⟩ | ⟨g, cap, cur, e, hb', hc, h1⟩
  · exact .inl ⟨e, h0⟩
  · have := (Array.getElem?_eq_some_iff.1 hc).1
    exact .inr ⟨g, cap, cur, e, hb', (hb.block g (by omega)).trans hc, h1⟩
theorem info51 : (Try.prog.info? 51).map (fun i => (i.zero, i.size, i.bytes)) = some (some (.agg #[.string ByteArray.empty, .int .i64 0, .int .i64 0]), 3, 32) := by kernel_rfl
theorem oneCell_cellsS (l : List T) : ∀ v ∈ cellsS l, v.oneCell' = true := by
  intro v hv
  obtain ⟨p, _, h⟩ := List.mem_flatMap.1 hv
  simp only [List.mem_cons, List.not_mem_nil, or_false] at h
  rcases h with rfl | rfl | rfl <;> rfl
/-- append(out, d). Where the new slice lies: where it lay, or in a new block. -/
theorem GrS.one {w : World} {base c : Nat} {A : Option Addr} {l : List T} (h : GrS w base A c l) (r : T) (ty : TypeId) (hb : l.length ≤ 10000000) (hbase : base ≤ w.heap.size) :
    ∃ A' c' w', (Builtin.append_ #[35, 35] ty #[.slice A l.length c, .slice (some ⟨w.heap.size, 0, none⟩) 1 1]).run Try.prog (w.alloc (.cells #[.string r.1, .int .i64 r.2.1, .int .i64 r.2.2] 51)) = .ok (.slice A' (l.length + 1) c') w' ∧ GrS w' base A' c' (l ++ [r]) ∧ Below base w w' ∧ (∀ k, k < w.heap.size → blk A ≠ some k → w'.heap[k]? = w.heap[k]?) ∧ w.heap.size ≤ w'.heap.size ∧ (blk A' = blk A ∨ ∃ k, blk A' = some k ∧ w.heap.size ≤ k) := by
  obtain ⟨i0, hi, hz0, hz1, hz2⟩ := info_parts info51
  have hB0 : Below base w (w.alloc (.cells #[.string r.1, .int .i64 r.2.1, .int .i64 r.2.2] 51)) := (Below.refl _ w).alloc hbase _
  have hBt : Below w.heap.size w (w.alloc (.cells #[.string r.1, .int .i64 r.2.1, .int .i64 r.2.2] 51)) := (Below.refl _ w).alloc (Nat.le_refl _) _
  have hcell : ∀ j u, (cellsS [r])[j]? = some u → (w.alloc (.cells #[.string r.1, .int .i64 r.2.1, .int .i64 r.2.2] 51)).cell? ((⟨w.heap.size, 0, none⟩ : Addr).add j) = some u := by
    intro j u hu
    have e : (⟨w.heap.size, 0, none⟩ : Addr).add j = ⟨w.heap.size, j, none⟩ := by
      unfold Addr.add; split
      · rename_i h; subst h; rfl
      · simp
    rw [e, cell_of_row _ _ j _ 51 (0, 0) (heap_alloc_new w _)]
    simpa [cellsS] using hu
  obtain ⟨v', w', hrun, ho, hg, hn, hat⟩ := run_append_own_at (P := Try.prog) (w.alloc (.cells #[.string r.1, .int .i64 r.2.1, .int .i64 r.2.2] 51)) base 35 ty 51 i0 (.agg #[.string ByteArray.empty, .int .i64 0, .int .i64 0]) 3 32 Try.underlying35 hi hz0 hz1 hz2 rfl (by decide) _ _ _ (h.below hBt (Nat.le_refl _)) _ 1 1 (cellsS [r]) (by simp [cellsS]) hcell (oneCell_cellsS [r]) (by unfold maxLen; omega) (by omega) (by simp; omega)
  have hB : Below base w w' := hB0.grown hg (by simp; omega) (fun k e => by rw [blk_own] at e; exact (h.lt k e).1)
  have e2 : cellsS (l ++ [r]) = cellsS l ++ cellsS [r] := by simp [cellsS]
  have e3 : (l ++ [r]).length = l.length + 1 := by simp
  rw [blk_own] at hg hat
  rcases ho.2 with ⟨e, h0⟩ | ⟨g', cap', cur, e, _⟩
  · omega
  · rw [e] at hrun ho hat
    refine ⟨_, _, w', hrun, by unfold GrS; rw [e2, e3]; exact ho, hB, fun k hk hne => ?_, ?_, ?_⟩
    · exact (hg.block k (by simp; omega) (fun e => hne e.symm)).trans (hBt.block k hk)
    · have := hg.size; simp only [World.size_alloc] at this; omega
    · rw [blk_own] at hat
      rcases hat with hat | hat
      · exact .inl hat
      · exact .inr ⟨_, hat, by simp⟩
/-- The box B holds a slice of dots of the call's own. -/
def OutS (base B : Nat) (l : List T) (W : World) : Prop := ∃ A c, Boxed W B 35 (.slice A l.length c) ∧ GrS W base A c l
theorem GrS.kept {w w' : World} {base c : Nat} {A : Option Addr} {l : List T} {row : Option Nat} (h : GrS w base A c l) (hg : w.grownBy w' row) (hr : ∀ k, blk A = some k → some k ≠ row) : GrS w' base A c l := by
  refine ⟨h.1, ?_⟩
  rcases h.2 with ⟨e, h0⟩ | ⟨g, cap, cur, e, hb', hc, h1⟩
  · exact .inl ⟨e, h0⟩
  · have := (Array.getElem?_eq_some_iff.1 hc).1
    have hA : blk A = some g := by injection e with e1; rw [e1]; rfl
    exact .inr ⟨g, cap, cur, e, hb', (hg.block g this (hr g hA)).trans hc, h1⟩
theorem outS_own {β : Type} (base B : Nat) (f : β → List T) : Own (fun s W => OutS base B (f s) W) := by
  rintro s X Y row ⟨A, c, hv, hr⟩ hg hrow
  refine ⟨A, c, hv.kept hg (fun e' => ?_), hr.kept hg (fun k hk e' => ?_)⟩
  · obtain ⟨o, ho, hc⟩ := hrow B e'.symm
    rw [show X.heap[B]? = _ from hv] at ho; cases ho; cases hc
  · obtain ⟨o, ho, hc⟩ := hrow k e'.symm
    rcases hr.cases with ⟨rfl, h2, rfl⟩ | ⟨g, cur, rfl, hb, hO, _⟩
    · simp [blk] at hk
    · obtain rfl : g = k := by simpa [blk] using hk
      rw [hO] at ho; cases ho; cases hc
theorem OutS.new {w : World} {base : Nat} : OutS base w.heap.size [] (w.alloc (.cells #[.slice none 0 0] 35)) := ⟨none, 0, Boxed.new w _ _, GrS.nil _ _⟩
/-- One dot more. -/
theorem pushS {W : World} {base B c : Nat} {A : Option Addr} {l : List T} (hv : Boxed W B 35 (.slice A l.length c)) (hg : GrS W base A c l) (hbase : base ≤ W.heap.size) (hB : B < base) (r : T) (hb : l.length ≤ 10000000) :
    ∃ A' c' w1, (Builtin.append_ #[35, 35] 35 #[.slice A l.length c, .slice (some ⟨W.heap.size, 0, none⟩) 1 1]).run Try.prog (W.alloc (.cells #[.string r.1, .int .i64 r.2.1, .int .i64 r.2.2] 51)) = .ok (.slice A' (l.length + 1) c') w1 ∧
      w1.cell? ⟨B, 0, none⟩ = some (.slice A l.length c) ∧ w1.frozen? ⟨B, 0, none⟩ = false ∧ OutS base B (l ++ [r]) (w1.setCell ⟨B, 0, none⟩ (.slice A' (l.length + 1) c')) ∧
      Kept (fun k => k = B ∨ base ≤ k) W (w1.setCell ⟨B, 0, none⟩ (.slice A' (l.length + 1) c')) ∧ Below B W (w1.setCell ⟨B, 0, none⟩ (.slice A' (l.length + 1) c')) := by
  obtain ⟨A', c', w1, hrun, ho, hbl, hk, hs, hA⟩ := hg.one r 35 hb hbase
  have e3 : (l ++ [r]).length = l.length + 1 := by simp
  have b1 : Boxed w1 B 35 (.slice A l.length c) := boxed_below hv hbl hB
  refine ⟨A', c', w1, hrun, b1.cell, b1.frozen, ⟨A', c', by rw [e3]; exact b1.set _, ?_⟩, ?_, ?_⟩
  · refine ho.kept (grownBy_setCell' w1 B _) fun k hk e => ?_
    injection e with e
    have e' : k = B := e
    have := (ho.lt k hk).1
    omega
  · have k1 : Kept (fun k => k = B ∨ base ≤ k) W w1 := ⟨hs, fun k hlt hx => hk k hlt fun e => hx (.inr (hg.lt k e).1)⟩
    exact k1.setCell (p := ⟨B, 0, none⟩) (.inl rfl) _
  · exact (hbl.mono (Nat.le_of_lt hB)).setCell (p := ⟨B, 0, none⟩) (Nat.le_refl _) _
end Go.Proofs.Ytadcmljcbmfcaaa.V
