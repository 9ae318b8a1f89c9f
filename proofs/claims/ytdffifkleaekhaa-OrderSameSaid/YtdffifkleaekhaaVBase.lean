/-
  Dots where they lie: slices that came in, slices of the call's own.
-/
import Derived.Test.YtdffifkleaekhaaProg
import Derived.Test.YtdffifkleaekhaaVDots
import Derived.WalkKit
import Derived.WalkSpells
import Derived.WalkLawsBesides
import Derived.LoopTactic
import Derived.Laws.RangeString
import Derived.Laws.RangeAny
import Derived.Lib.Hide
import Derived.Deep.LoopGhost
import Derived.Maps.AppendAt
namespace Go.Proofs.Ytdffifkleaekhaa.V
open Go.RowKit

theorem ret_bool {a b : Bool} (h : a = b) : Ending.returned (.bool a) = .returned (.bool b) := by rw [h]
/-- A dot as a value. -/
def dv (d : D) : Value := .agg #[.string d.1, .int .i64 d.2]
/-- A slice of dots' cells. -/
def RowD (w : World) (B : Nat) (A : Option Addr) (l : List D) : Prop :=
  0 < l.length → ∃ b off, A = some ⟨b, off, none⟩ ∧ b < B ∧ ∀ j d, l[j]? = some d → w.cell? ⟨b, off + j * 2, none⟩ = some (.string d.1) ∧ w.cell? ⟨b, off + j * 2 + 1, none⟩ = some (.int .i64 d.2)
theorem RowD.none_ (w : World) (B : Nat) (A : Option Addr) : RowD w B A [] := fun h => absurd h (by simp)
theorem RowD.keep {w w' : World} {B : Nat} {A : Option Addr} {l : List D} (h : RowD w B A l) (hk : ∀ (p : Addr) (v : Value), p.block < B → w.cell? p = some v → w'.cell? p = some v) : RowD w' B A l :=
  fun hn => by obtain ⟨b, off, e, hl, hc⟩ := h hn; exact ⟨b, off, e, hl, fun j p hj => ⟨hk _ _ hl (hc j p hj).1, hk _ _ hl (hc j p hj).2⟩⟩
theorem RowD.below {w w' : World} {B : Nat} {A : Option Addr} {l : List D} (h : RowD w B A l) (hb : Below B w w') : RowD w' B A l := h.keep fun _ _ hl hc => (hb.cell hl).trans hc
theorem RowD.more {w : World} {B B' : Nat} {A : Option Addr} {l : List D} (h : RowD w B A l) (hB : B ≤ B') : RowD w B' A l := fun hn => by obtain ⟨b, off, e, hb, hc⟩ := h hn; exact ⟨b, off, e, by omega, hc⟩
theorem RowD.up {w w' : World} {A : Option Addr} {l : List D} (h : RowD w w.heap.size A l) (hb : Below w.heap.size w w') : RowD w' w'.heap.size A l := (h.below hb).more hb.size
theorem RowD.at {w : World} {B : Nat} {A : Option Addr} {l : List D} (h : RowD w B A l) (j : Nat) (hj : j < l.length) : ∃ b off, A = some ⟨b, off, none⟩ ∧ b < B ∧ w.cell? ⟨b, off + j * 2, none⟩ = some (.string (l[j]'hj).1) ∧ w.cell? ⟨b, off + j * 2 + 1, none⟩ = some (.int .i64 (l[j]'hj).2) := by
  obtain ⟨b, off, e, hb, hc⟩ := h (by omega)
  exact ⟨b, off, e, hb, hc j _ (List.getElem?_eq_getElem hj)⟩
theorem RowD.tail {w : World} {B b off : Nat} {d : D} {l : List D} (h : RowD w B (some ⟨b, off, none⟩) (d :: l)) : RowD w B (some ⟨b, off + 2, none⟩) l := fun _ => by
  obtain ⟨b', off', e, hb, hc⟩ := h (by simp)
  injection e with e
  injection e with e1 e2
  subst e1; subst e2
  refine ⟨b, off + 2, rfl, hb, fun j p hj => ?_⟩
  have := hc (j + 1) p (by simpa using hj)
  rw [show off + 2 + j * 2 = off + (j + 1) * 2 by omega]
  exact this
/-- A slice of dots of the call's own. -/
def cellsD (l : List D) : List Value := l.flatMap fun d => [.string d.1, .int .i64 d.2]
theorem cellsD_length (l : List D) : (cellsD l).length = l.length * 2 := by
  induction l with
  | nil => rfl
  | cons p t ih => simp [cellsD] at ih ⊢; omega
theorem cellsD_get : ∀ (l : List D) (j : Nat) (r : D), l[j]? = some r → (cellsD l)[j * 2]? = some (.string r.1) ∧ (cellsD l)[j * 2 + 1]? = some (.int .i64 r.2)
  | [], j, p, h => by simp at h
  | q :: t, 0, p, h => by simp at h; subst h; simp [cellsD]
  | q :: t, j + 1, p, h => by
    have ih := cellsD_get t j p (by simpa using h)
    have e : cellsD (q :: t) = .string q.1 :: .int .i64 q.2 :: cellsD t := by simp [cellsD]
    rw [e, show (j + 1) * 2 = j * 2 + 1 + 1 by omega]
    simp only [List.getElem?_cons_succ]
    exact ih
def GrD (w : World) (base : Nat) (A : Option Addr) (c : Nat) (l : List D) : Prop := w.ownsRow base 23 2 (.slice A l.length c) l.length (cellsD l)
theorem GrD.nil (w : World) (base : Nat) : GrD w base none 0 [] := ⟨by simp [cellsD], .inl ⟨rfl, rfl⟩⟩
theorem GrD.cases {w : World} {base : Nat} {A : Option Addr} {c : Nat} {l : List D} (h : GrD w base A c l) : (A = none ∧ l = [] ∧ c = 0) ∨ ∃ g cur, A = some ⟨g, 0, none⟩ ∧ base ≤ g ∧ w.heap[g]? = some (.cells cur 23 (0, 0)) ∧ l.length ≤ c ∧ c ≤ maxLen ∧ cur.size = c * 2 ∧ cur.toList.take (l.length * 2) = cellsD l := by
  rcases h.2 with ⟨e, h0⟩ | ⟨g, cap, cur, e, hb, hc, h1, h2, h3, h4⟩
  · injection e with e1 e2 e3
    exact .inl ⟨e1, List.eq_nil_of_length_eq_zero e2, e3⟩
  · injection e with e1 e2 e3
    subst e1; subst e3
    exact .inr ⟨g, cur, rfl, hb, hc, h1, h2, h3, h4⟩
theorem GrD.row {w : World} {base c : Nat} {A : Option Addr} {l : List D} (h : GrD w base A c l) : RowD w w.heap.size A l := by
  rcases h.cases with ⟨rfl, rfl, rfl⟩ | ⟨g, cur, rfl, hb, hc, h1, h2, h3, h4⟩
  · exact fun h => absurd h (by simp)
  · refine fun _ => ⟨g, 0, rfl, (Array.getElem?_eq_some_iff.1 hc).1, fun j p hp => ?_⟩
    have hj := (List.getElem?_eq_some_iff.1 hp).1
    have hcell : ∀ k, k < l.length * 2 → w.cell? ⟨g, k, none⟩ = (cellsD l)[k]? := fun k hk => by
      rw [cell_of_row w g k cur 23 (0, 0) hc, ← h4, List.getElem?_take, if_pos hk]; simp
    obtain ⟨g0, g1⟩ := cellsD_get l j p hp
    exact ⟨by rw [Nat.zero_add, hcell _ (by omega), g0], by rw [Nat.zero_add, hcell _ (by omega), g1]⟩
theorem GrD.cap {w : World} {base c : Nat} {A : Option Addr} {l : List D} (h : GrD w base A c l) : l.length ≤ c ∧ c ≤ maxLen := by
  rcases h.cases with ⟨rfl, rfl, rfl⟩ | ⟨g, cur, rfl, hb, hc, h1, h2, h3, h4⟩
  · exact ⟨by simp, by unfold maxLen; omega⟩
  · exact ⟨h1, h2⟩
/-- Where a slice lies. -/
def blk (A : Option Addr) : Option Nat := A.map Addr.block
theorem blk_own (A : Option Addr) (n c : Nat) : (Value.slice A n c).ownBlock = blk A := by cases A <;> rfl
theorem GrD.lt {w : World} {base c : Nat} {A : Option Addr} {l : List D} (h : GrD w base A c l) : ∀ k, blk A = some k → base ≤ k ∧ k < w.heap.size := by
  have := World.ownsRow.lt h
  rw [blk_own] at this
  exact this
theorem GrD.below {w w' : World} {base c B : Nat} {A : Option Addr} {l : List D} (h : GrD w base A c l) (hb : Below B w w') (hB : w.heap.size ≤ B) : GrD w' base A c l := by
  refine ⟨h.1, ?_⟩
  rcases h.2 with ⟨e, h0⟩ | ⟨g, cap, cur, e, hb', hc, h1⟩
  · exact .inl ⟨e, h0⟩
  · have := (Array.getElem?_eq_some_iff.1 hc).1
    exact .inr ⟨g, cap, cur, e, hb', (hb.block g (by omega)).trans hc, h1⟩
theorem info24 : (Try.prog.info? 23).map (fun i => (i.zero, i.size, i.bytes)) = some (some (.agg #[.string ByteArray.empty, .int .i64 0]), 2, 24) := by kernel_rfl
theorem oneCell_cellsD (l : List D) : ∀ v ∈ cellsD l, v.oneCell' = true := by
  intro v hv
  obtain ⟨p, _, h⟩ := List.mem_flatMap.1 hv
  simp only [List.mem_cons, List.not_mem_nil, or_false] at h
  rcases h with rfl | rfl <;> rfl
/-- append(out, d). Where the new slice lies: where it lay, or in a new block. -/
theorem GrD.one {w : World} {base c : Nat} {A : Option Addr} {l : List D} (h : GrD w base A c l) (r : D) (ty : TypeId) (hb : l.length ≤ 10000000) (hbase : base ≤ w.heap.size) :
    ∃ A' c' w', (Builtin.append_ #[24, 24] ty #[.slice A l.length c, .slice (some ⟨w.heap.size, 0, none⟩) 1 1]).run Try.prog (w.alloc (.cells #[.string r.1, .int .i64 r.2] 23)) = .ok (.slice A' (l.length + 1) c') w' ∧ GrD w' base A' c' (l ++ [r]) ∧ Below base w w' ∧ (∀ k, k < w.heap.size → blk A ≠ some k → w'.heap[k]? = w.heap[k]?) ∧ w.heap.size ≤ w'.heap.size ∧ (blk A' = blk A ∨ ∃ k, blk A' = some k ∧ w.heap.size ≤ k) := by
  obtain ⟨i0, hi, hz0, hz1, hz2⟩ := info_parts info24
  have hB0 : Below base w (w.alloc (.cells #[.string r.1, .int .i64 r.2] 23)) := (Below.refl _ w).alloc hbase _
  have hBt : Below w.heap.size w (w.alloc (.cells #[.string r.1, .int .i64 r.2] 23)) := (Below.refl _ w).alloc (Nat.le_refl _) _
  have hcell : ∀ j u, (cellsD [r])[j]? = some u → (w.alloc (.cells #[.string r.1, .int .i64 r.2] 23)).cell? ((⟨w.heap.size, 0, none⟩ : Addr).add j) = some u := by
    intro j u hu
    have e : (⟨w.heap.size, 0, none⟩ : Addr).add j = ⟨w.heap.size, j, none⟩ := by
      unfold Addr.add; split
      · rename_i h; subst h; rfl
      · simp
    rw [e, cell_of_row _ _ j _ 23 (0, 0) (heap_alloc_new w _)]
    simpa [cellsD] using hu
  obtain ⟨v', w', hrun, ho, hg, hn, hat⟩ := run_append_own_at (P := Try.prog) (w.alloc (.cells #[.string r.1, .int .i64 r.2] 23)) base 24 ty 23 i0 (.agg #[.string ByteArray.empty, .int .i64 0]) 2 24 Try.underlying24 hi hz0 hz1 hz2 rfl (by decide) _ _ _ (h.below hBt (Nat.le_refl _)) _ 1 1 (cellsD [r]) (by simp [cellsD]) hcell (oneCell_cellsD [r]) (by unfold maxLen; omega) (by omega) (by simp; omega)
  have hB : Below base w w' := hB0.grown hg (by simp; omega) (fun k e => by rw [blk_own] at e; exact (h.lt k e).1)
  have e2 : cellsD (l ++ [r]) = cellsD l ++ cellsD [r] := by simp [cellsD]
  have e3 : (l ++ [r]).length = l.length + 1 := by simp
  rw [blk_own] at hg hat
  rcases ho.2 with ⟨e, h0⟩ | ⟨g', cap', cur, e, _⟩
  · omega
  · rw [e] at hrun ho hat
    refine ⟨_, _, w', hrun, by unfold GrD; rw [e2, e3]; exact ho, hB, fun k hk hne => ?_, ?_, ?_⟩
    · exact (hg.block k (by simp; omega) (fun e => hne e.symm)).trans (hBt.block k hk)
    · have := hg.size; simp only [World.size_alloc] at this; omega
    · rw [blk_own] at hat
      rcases hat with hat | hat
      · exact .inl hat
      · exact .inr ⟨_, hat, by simp⟩
end Go.Proofs.Ytdffifkleaekhaa.V
