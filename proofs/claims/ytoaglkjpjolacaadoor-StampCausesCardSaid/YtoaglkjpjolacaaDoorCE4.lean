/-
  Plain facts on steps: what a tree means, cut to a range; two meanings together. No program here.
-/
import Derived.Test.YtoaglkjpjolacaaDoorCE1
import Derived.Test.YtoaglkjpjolacaaDoorCE2
namespace Go.Proofs.YtoaglkjpjolacaaDoor.E
/-- A count, up to a piece. -/
abbrev St := Nat × Int
/-- Steps that go on from a piece to a piece, each of some width. -/
def Seg : Nat → List St → Nat → Prop
  | a, [], e => a = e
  | a, (t, _) :: r, e => a < t ∧ Seg t r e
theorem Seg.le : ∀ {a e : Nat} {l : List St}, Seg a l e → a ≤ e
  | _, _, [], h => Nat.le_of_eq h
  | _, _, _ :: _, h => Nat.le_trans (Nat.le_of_lt h.1) h.2.le
theorem Seg.append : ∀ {a b c : Nat} {l m : List St}, Seg a l b → Seg b m c → Seg a (l ++ m) c
  | _, _, _, [], _, h, g => by cases h; exact g
  | _, _, _, _ :: _, _, h, g => ⟨h.1, h.2.append g⟩
/-- The count at a piece. -/
def cnt : List St → Nat → Int
  | [], _ => 0
  | (t, c) :: r, p => if p < t then c else cnt r p
theorem Tr.Cov.congr {f g : Nat → Int} : ∀ {t : Tr} {k a : Nat} {s : Int}, Tr.Cov f t k a s → (∀ p, a ≤ p → p < a + 2 ^ k → g p = f p) → Tr.Cov g t k a s
  | .leaf n, k, a, s, h, e => fun p h1 h2 => (e p h1 h2).trans (h p h1 h2)
  | .node _ _ _, 0, _, _, h, _ => h.elim
  | .node n l r, k + 1, a, s, ⟨h1, h2⟩, e => by
    have hp := Nat.two_pow_pos k
    rw [Nat.pow_succ] at e
    exact ⟨h1.congr fun p a b => e p a (by omega), h2.congr fun p a b => e p (by omega) (by omega)⟩
/-- Values within bounds. -/
def InB (l : List St) : Prop := ∀ r ∈ l, 0 ≤ r.2 ∧ r.2 ≤ 4611686018427387904
/-- Steps that go on, some of them maybe of no width. -/
def Sea : Nat → List St → Nat → Prop
  | a, [], e => a = e
  | a, (t, _) :: r, e => a ≤ t ∧ Sea t r e
theorem Seg.sea : ∀ {a e : Nat} {l : List St}, Seg a l e → Sea a l e
  | _, _, [], h => h
  | _, _, _ :: _, h => ⟨Nat.le_of_lt h.1, h.2.sea⟩
theorem Sea.le : ∀ {a e : Nat} {l : List St}, Sea a l e → a ≤ e
  | _, _, [], h => Nat.le_of_eq h
  | _, _, _ :: _, h => Nat.le_trans h.1 h.2.le
/-- The least and the greatest of steps. -/
def minL : List St → Int → Int
  | [], m => m
  | (_, c) :: r, m => minL r (min m c)
def maxL : List St → Int → Int
  | [], m => m
  | (_, c) :: r, m => maxL r (max m c)
theorem minL_le : ∀ (l : List St) (m : Int), minL l m ≤ m ∧ ∀ x ∈ l, minL l m ≤ x.2
  | [], m => ⟨Int.le_refl _, by simp⟩
  | (t, c) :: r, m => by
    have h := minL_le r (min m c)
    refine ⟨by simp only [minL]; omega, fun x hx => ?_⟩
    rcases List.mem_cons.1 hx with rfl | hx
    · simp only [minL]; omega
    · exact h.2 x hx
theorem minL_at : ∀ (l : List St) (m : Int), minL l m = m ∨ ∃ x ∈ l, minL l m = x.2
  | [], m => .inl rfl
  | (t, c) :: r, m => by
    rcases minL_at r (min m c) with h | ⟨x, hx, h⟩
    · simp only [minL]
      by_cases hc : m ≤ c
      · left; omega
      · right; exact ⟨(t, c), List.mem_cons_self, by simp only; omega⟩
    · right; exact ⟨x, List.mem_cons_of_mem _ hx, h⟩
theorem le_maxL : ∀ (l : List St) (m : Int), m ≤ maxL l m ∧ ∀ x ∈ l, x.2 ≤ maxL l m
  | [], m => ⟨Int.le_refl _, by simp⟩
  | (t, c) :: r, m => by
    have h := le_maxL r (max m c)
    refine ⟨by simp only [maxL]; omega, fun x hx => ?_⟩
    rcases List.mem_cons.1 hx with rfl | hx
    · simp only [maxL]; omega
    · exact h.2 x hx
theorem maxL_at : ∀ (l : List St) (m : Int), maxL l m = m ∨ ∃ x ∈ l, maxL l m = x.2
  | [], m => .inl rfl
  | (t, c) :: r, m => by
    rcases maxL_at r (max m c) with h | ⟨x, hx, h⟩
    · simp only [maxL]
      by_cases hc : c ≤ m
      · left; omega
      · right; exact ⟨(t, c), List.mem_cons_self, by simp only; omega⟩
    · right; exact ⟨x, List.mem_cons_of_mem _ hx, h⟩
theorem seg_at : ∀ {a e : Nat} {l : List St}, Seg a l e → ∀ x ∈ l, ∃ p, a ≤ p ∧ p < e ∧ cnt l p = x.2
  | _, _, [], _, x, hx => by cases hx
  | a, e, (t, c) :: r, h, x, hx => by
    have hle := h.2.le
    rcases List.mem_cons.1 hx with rfl | hx
    · exact ⟨a, Nat.le_refl _, by have := h.1; omega, by simp only [cnt]; rw [if_pos h.1]⟩
    · obtain ⟨p, h1, h2, h3⟩ := seg_at h.2 x hx
      exact ⟨p, by have := h.1; omega, h2, by simp only [cnt]; rw [if_neg (by omega)]; exact h3⟩
theorem cnt_mem : ∀ {a e : Nat} {l : List St} {p : Nat}, Sea a l e → p < e → a ≤ p → ∃ x ∈ l, cnt l p = x.2
  | _, _, [], _, h, h1, h2 => by cases h; omega
  | a, e, (t, c) :: r, p, h, h1, h2 => by
    by_cases hp : p < t
    · exact ⟨(t, c), List.mem_cons_self, by simp only [cnt]; rw [if_pos hp]⟩
    · obtain ⟨x, hx, e⟩ := cnt_mem h.2 h1 (by omega)
      exact ⟨x, List.mem_cons_of_mem _ hx, by simp only [cnt]; rw [if_neg hp]; exact e⟩
/-- Of steps that go through a range, the least and the greatest are those of the counts. -/
theorem seg_ends {l : List St} {k a : Nat} {c0 : St} (h : Seg a l (a + 2 ^ k)) (h0 : l[0]? = some c0) : minL l c0.2 = Tr.lo (cnt l) k a ∧ maxL l c0.2 = Tr.hi (cnt l) k a := by
  have hm : c0 ∈ l := List.mem_of_getElem? h0
  constructor
  · obtain ⟨p, p1, p2, p3⟩ := Tr.lo_at (cnt l) k a
    obtain ⟨x, hx, e⟩ := cnt_mem h.sea p2 p1
    have h1 := (minL_le l c0.2).2 x hx
    have h2 : ∃ y ∈ l, minL l c0.2 = y.2 := by
      rcases minL_at l c0.2 with h | h
      · exact ⟨c0, hm, h⟩
      · exact h
    obtain ⟨y, hy, ey⟩ := h2
    obtain ⟨q, q1, q2, q3⟩ := seg_at h y hy
    have := Tr.lo_le (cnt l) k a q q1 q2
    omega
  · obtain ⟨p, p1, p2, p3⟩ := Tr.hi_at (cnt l) k a
    obtain ⟨x, hx, e⟩ := cnt_mem h.sea p2 p1
    have h1 := (le_maxL l c0.2).2 x hx
    have h2 : ∃ y ∈ l, maxL l c0.2 = y.2 := by
      rcases maxL_at l c0.2 with h | h
      · exact ⟨c0, hm, h⟩
      · exact h
    obtain ⟨y, hy, ey⟩ := h2
    obtain ⟨q, q1, q2, q3⟩ := seg_at h y hy
    have := Tr.le_hi (cnt l) k a q q1 q2
    omega
/-- Two meanings' steps together. -/
def bothS : List St → List St → List St
  | (t, c) :: r, (u, d) :: s => (min t u, max c d) :: (if t = min t u then (if u = min t u then bothS r s else bothS r ((u, d) :: s)) else (if u = min t u then bothS ((t, c) :: r) s else []))
  | _, _ => []
termination_by a b => a.length + b.length
decreasing_by all_goals (simp only [List.length_cons]; omega)
def bothL : List St → List St → Bool → Bool
  | (t, c) :: r, (u, d) :: s, q => if t = min t u then (if u = min t u then bothL r s (q && decide (c ≤ d)) else bothL r ((u, d) :: s) (q && decide (c ≤ d))) else (if u = min t u then bothL ((t, c) :: r) s (q && decide (c ≤ d)) else q)
  | _, _, q => q
termination_by a b => a.length + b.length
decreasing_by all_goals (simp only [List.length_cons]; omega)
end Go.Proofs.YtoaglkjpjolacaaDoor.E
namespace Go.Proofs.YtoaglkjpjolacaaDoor.E
open Go.RowKit
/-- An append whose run is known. -/
theorem wpList_append_run {P : Program} {w w' : World} {v' : Value} {ops : Array Oper} {rest : List Oper} {o : Oper} {a : Act} {Q : Exit → Act → World → Prop} (hgd : o.guard = none) (s x : Operand) (t u : TypeId)
    (ho : o.op = .call { callee := .builtin .append, args := #[s, x], argTypes := #[t, u] }) (vs vx : Value) (hs : a.eval s = vs) (hx : a.eval x = vx) (hrun : (Builtin.append_ #[t, u] o.type #[vs, vx]).run P w = .ok v' w')
    (h : wpList P ops Q rest (a.put o.dst v') w') : wpList P ops Q (o :: rest) a w :=
  wpList_plain hgd fun _ hK => by
    unfold Oper.wp execOp
    simp only [ho, resolve, invoke, builtin, Sem.run_bind, Sem.run_pure, Result.andThen_ok, List.map_toArray, List.map_cons, List.map_nil, hs, hx, hrun]
    exact hK _ _ h

/-- Ranges as cells; a slice of ranges of the call's own, nil if it holds none. -/
def cellsR (l : List St) : List Value := l.flatMap fun r => [.int .u64 (r.1 : Int), .int .i64 r.2]
theorem cellsR_length (l : List St) : (cellsR l).length = l.length * 2 := by
  induction l with
  | nil => rfl
  | cons p t ih => simp [cellsR] at ih ⊢; omega
theorem cellsR_get : ∀ (l : List St) (j : Nat) (r : St), l[j]? = some r → (cellsR l)[j * 2]? = some (.int .u64 (r.1 : Int)) ∧ (cellsR l)[j * 2 + 1]? = some (.int .i64 r.2)
  | [], j, p, h => by simp at h
  | q :: t, 0, p, h => by simp at h; subst h; simp [cellsR]
  | q :: t, j + 1, p, h => by
    have ih := cellsR_get t j p (by simpa using h)
    have e : cellsR (q :: t) = .int .u64 (q.1 : Int) :: .int .i64 q.2 :: cellsR t := by simp [cellsR]
    rw [e, show (j + 1) * 2 = j * 2 + 1 + 1 by omega]
    simp only [List.getElem?_cons_succ]
    exact ih
/-- A slice of ranges that reads as l and lies below block B. -/
def RowR (w : World) (B : Nat) (A : Option Addr) (l : List St) : Prop :=
  0 < l.length → ∃ b off, A = some ⟨b, off, none⟩ ∧ b < B ∧ ∀ j r, l[j]? = some r → w.cell? ⟨b, off + j * 2, none⟩ = some (.int .u64 (r.1 : Int)) ∧ w.cell? ⟨b, off + j * 2 + 1, none⟩ = some (.int .i64 r.2)
theorem RowR.keep {w w' : World} {B : Nat} {A : Option Addr} {l : List St} (h : RowR w B A l) (hk : ∀ p : Addr, p.block < B → w'.cell? p = w.cell? p) : RowR w' B A l :=
  fun hn => by obtain ⟨b, off, e, hb, hc⟩ := h hn; exact ⟨b, off, e, hb, fun j p hj => ⟨(hk _ hb).trans (hc j p hj).1, (hk _ hb).trans (hc j p hj).2⟩⟩
theorem RowR.below {w w' : World} {B : Nat} {A : Option Addr} {l : List St} (h : RowR w B A l) (hb : Below B w w') : RowR w' B A l := h.keep fun _ hp => hb.cell hp
theorem RowR.more {w : World} {B B' : Nat} {A : Option Addr} {l : List St} (h : RowR w B A l) (hB : B ≤ B') : RowR w B' A l := fun hn => by obtain ⟨b, off, e, hb, hc⟩ := h hn; exact ⟨b, off, e, by omega, hc⟩
theorem RowR.up {w w' : World} {A : Option Addr} {l : List St} (h : RowR w w.heap.size A l) (hb : Below w.heap.size w w') : RowR w' w'.heap.size A l := (h.below hb).more hb.size
def GrR (w : World) (base : Nat) (A : Option Addr) (c : Nat) (l : List St) : Prop := w.ownsRow base 132 2 (.slice A l.length c) l.length (cellsR l)
theorem GrR.nil (w : World) (base : Nat) : GrR w base none 0 [] := ⟨by simp [cellsR], .inl ⟨rfl, rfl⟩⟩
theorem GrR.cases {w : World} {base : Nat} {A : Option Addr} {c : Nat} {l : List St} (h : GrR w base A c l) : (A = none ∧ l = [] ∧ c = 0) ∨ ∃ g cur, A = some ⟨g, 0, none⟩ ∧ base ≤ g ∧ w.heap[g]? = some (.cells cur 132 (0, 0)) ∧ l.length ≤ c ∧ c ≤ maxLen ∧ cur.size = c * 2 ∧ cur.toList.take (l.length * 2) = cellsR l := by
  rcases h.2 with ⟨e, h0⟩ | ⟨g, cap, cur, e, hb, hc, h1, h2, h3, h4⟩
  · injection e with e1 e2 e3
    exact .inl ⟨e1, List.eq_nil_of_length_eq_zero e2, e3⟩
  · injection e with e1 e2 e3
    subst e1; subst e3
    exact .inr ⟨g, cur, rfl, hb, hc, h1, h2, h3, h4⟩
theorem GrR.row {w : World} {base c : Nat} {A : Option Addr} {l : List St} (h : GrR w base A c l) : RowR w w.heap.size A l := by
  rcases h.cases with ⟨rfl, rfl, rfl⟩ | ⟨g, cur, rfl, hb, hc, h1, h2, h3, h4⟩
  · intro hn; simp at hn
  · refine fun _ => ⟨g, 0, rfl, (Array.getElem?_eq_some_iff.1 hc).1, fun j p hp => ?_⟩
    have hj := (List.getElem?_eq_some_iff.1 hp).1
    have hcell : ∀ k, k < l.length * 2 → w.cell? ⟨g, k, none⟩ = (cellsR l)[k]? := fun k hk => by
      rw [cell_of_row w g k cur 132 (0, 0) hc, ← h4, List.getElem?_take, if_pos hk]; simp
    obtain ⟨g0, g1⟩ := cellsR_get l j p hp
    refine ⟨?_, ?_⟩
    · rw [Nat.zero_add, hcell _ (by omega), g0]
    · rw [Nat.zero_add, hcell _ (by omega), g1]
theorem GrR.own {w : World} {base c : Nat} {A : Option Addr} {l : List St} (h : GrR w base A c l) : ∀ k, (Value.slice A l.length c).ownBlock = some k → base ≤ k ∧ k < w.heap.size := by
  rcases h.cases with ⟨rfl, rfl, rfl⟩ | ⟨g, cur, rfl, hb, hc, _⟩
  · intro k e; simp [Value.ownBlock] at e
  · intro k e
    simp only [Value.ownBlock, Option.some.injEq] at e
    subst e
    exact ⟨hb, (Array.getElem?_eq_some_iff.1 hc).1⟩
theorem GrR.below {w w' : World} {base c B : Nat} {A : Option Addr} {l : List St} (h : GrR w base A c l) (hb : Below B w w') (hB : w.heap.size ≤ B) : GrR w' base A c l := by
  refine ⟨h.1, ?_⟩
  rcases h.2 with ⟨e, h0⟩ | ⟨g, cap, cur, e, hb', hc, h1⟩
  · exact .inl ⟨e, h0⟩
  · have := (Array.getElem?_eq_some_iff.1 hc).1
    exact .inr ⟨g, cap, cur, e, hb', (hb.block g (by omega)).trans hc, h1⟩
theorem info90 : (Tryd.prog.info? 132).map (fun i => (i.zero, i.size, i.bytes)) = some (some (.agg #[.int .u64 0, .int .i64 0]), 2, 16) := by kernel_rfl
theorem oneCell_cellsR (l : List St) : ∀ v ∈ cellsR l, v.oneCell' = true := by
  intro v hv
  obtain ⟨p, _, h⟩ := List.mem_flatMap.1 hv
  simp only [List.mem_cons, List.not_mem_nil, or_false] at h
  rcases h with rfl | rfl <;> rfl
/-- Whatever is not a row of ranges lies as it lay. -/
def Fr (w w' : World) : Prop := ∀ (k : Nat) (o : Obj), w.heap[k]? = some o → (∀ cs fr, o ≠ .cells cs 132 fr) → w'.heap[k]? = some o
theorem Fr.refl (w : World) : Fr w w := fun _ _ h _ => h
theorem Fr.trans {a b c : World} (h : Fr a b) (g : Fr b c) : Fr a c := fun k o hk ho => g k o (h k o hk ho) ho
theorem Fr.alloc (w : World) (x : Obj) : Fr w (w.alloc x) := fun k _ hk _ => (Below.heap_alloc w x k (Array.getElem?_eq_some_iff.1 hk).1).trans hk
theorem Fr.cell {w w' : World} (h : Fr w w') {k : Nat} {cs : Array Value} {t : TypeId} (hk : w.heap[k]? = some (.cells cs t (0, 0))) (ht : t ≠ 132) : w'.heap[k]? = some (.cells cs t (0, 0)) := h k _ hk (fun cs' fr e => by injection e with _ e2 _; exact ht e2)
theorem GrR.fr {w w' : World} {base c : Nat} {A : Option Addr} {l : List St} (h : GrR w base A c l) (hg : w.grownBy w' (Value.slice A l.length c).ownBlock) : Fr w w' := fun k o hk ho => by
  refine (hg.block k (Array.getElem?_eq_some_iff.1 hk).1 (fun e => ?_)).trans hk
  rcases h.cases with ⟨rfl, h2, rfl⟩ | ⟨g, cur, rfl, _, hc, _⟩
  · simp [Value.ownBlock] at e
  · obtain rfl : k = g := by simpa [Value.ownBlock] using e
    rw [hc] at hk
    injection hk with hk
    exact ho cur (0, 0) hk.symm
/-- append(out, r): one range, in a block of its own. -/
theorem GrR.one {w : World} {base c : Nat} {A : Option Addr} {l : List St} (h : GrR w base A c l) (r : St) (ty : TypeId) (hb : l.length ≤ 10000000) (hbase : base ≤ w.heap.size) :
    ∃ A' c' w', (Builtin.append_ #[109, 109] ty #[.slice A l.length c, .slice (some ⟨w.heap.size, 0, none⟩) 1 1]).run Tryd.prog (w.alloc (.cells #[.int .u64 (r.1 : Int), .int .i64 r.2] 132)) = .ok (.slice A' (l.length + 1) c') w' ∧ GrR w' base A' c' (l ++ [r]) ∧ Below base w w' ∧ Fr w w' := by
  obtain ⟨i0, hi, hz0, hz1, hz2⟩ := info_parts info90
  have hB0 : Below base w (w.alloc (.cells #[.int .u64 (r.1 : Int), .int .i64 r.2] 132)) := (Below.refl _ w).alloc hbase _
  have hBt : Below w.heap.size w (w.alloc (.cells #[.int .u64 (r.1 : Int), .int .i64 r.2] 132)) := (Below.refl _ w).alloc (Nat.le_refl _) _
  have hcell : ∀ j u, (cellsR [r])[j]? = some u → (w.alloc (.cells #[.int .u64 (r.1 : Int), .int .i64 r.2] 132)).cell? ((⟨w.heap.size, 0, none⟩ : Addr).add j) = some u := by
    intro j u hu
    have e : (⟨w.heap.size, 0, none⟩ : Addr).add j = ⟨w.heap.size, j, none⟩ := by
      unfold Addr.add; split
      · rename_i h; subst h; rfl
      · simp
    rw [e, cell_of_row _ _ j _ 132 (0, 0) (heap_alloc_new w _)]
    simpa [cellsR] using hu
  obtain ⟨v', w', hrun, ho, hg, hn⟩ := run_append_own_wide (P := Tryd.prog) (w.alloc (.cells #[.int .u64 (r.1 : Int), .int .i64 r.2] 132)) base 109 ty 132 i0 (.agg #[.int .u64 0, .int .i64 0]) 2 16 Tryd.underlying109 hi hz0 hz1 hz2 rfl (by decide) _ _ _ (h.below hBt (Nat.le_refl _)) _ 1 1 (cellsR [r]) (by simp [cellsR]) hcell (oneCell_cellsR [r]) (by unfold maxLen; omega) (by omega) (by simp; omega)
  have hB : Below base w w' := hB0.grown hg (by simp; omega) (fun k e => (h.own k e).1)
  have e2 : cellsR (l ++ [r]) = cellsR l ++ cellsR [r] := by simp [cellsR]
  have e3 : (l ++ [r]).length = l.length + 1 := by simp
  rcases ho.2 with ⟨e, h0⟩ | ⟨g', cap', cur, e, _⟩
  · omega
  · rw [e] at hrun ho
    exact ⟨_, _, w', hrun, by unfold GrR; rw [e2, e3]; exact ho, hB, (Fr.alloc w _).trans ((h.below hBt (Nat.le_refl _)).fr hg)⟩
end Go.Proofs.YtoaglkjpjolacaaDoor.E
namespace Go.Proofs.YtoaglkjpjolacaaDoor.E
open Go.RowKit
theorem RowR.at {w : World} {A : Option Addr} {l : List St} (h : RowR w w.heap.size A l) (j : Nat) (hj : j < l.length) : ∃ b off, A = some ⟨b, off, none⟩ ∧ b < w.heap.size ∧ Hid (∀ W, Below w.heap.size w W → W.cell? ⟨b, off + j * 2, none⟩ = some (.int .u64 ((l[j]'hj).1 : Int)) ∧ W.cell? ⟨b, off + j * 2 + 1, none⟩ = some (.int .i64 (l[j]'hj).2)) := by
  obtain ⟨b, off, e, hb, hc⟩ := h (by omega)
  obtain ⟨h1, h2⟩ := hc j _ (List.getElem?_eq_getElem hj)
  exact ⟨b, off, e, hb, fun W hW => ⟨(hW.cell hb).trans h1, (hW.cell hb).trans h2⟩⟩

end Go.Proofs.YtoaglkjpjolacaaDoor.E
namespace Go.Proofs.YtoaglkjpjolacaaDoor.E
open Go.RowKit
theorem oper_append_run {P : Program} {w w' : World} {v' : Value} {o : Oper} {a : Act} {K : Act → World → Prop} {Q : Exit → Act → World → Prop} (s x : Operand) (t u : TypeId)
    (ho : o.op = .call { callee := .builtin .append, args := #[s, x], argTypes := #[t, u] }) (vs vx : Value) (hs : a.eval s = vs) (hx : a.eval x = vx) (hrun : (Builtin.append_ #[t, u] o.type #[vs, vx]).run P w = .ok v' w')
    (h : K (a.put o.dst v') w') : o.wp P a w K Q := by
  unfold Oper.wp execOp
  simp only [ho, resolve, invoke, builtin, Sem.run_bind, Sem.run_pure, Result.andThen_ok, List.map_toArray, List.map_cons, List.map_nil, hs, hx, hrun]
  exact h
/-- append(out, x...). -/
theorem GrR.app {w : World} {base c : Nat} {A : Option Addr} {l : List St} (h : GrR w base A c l) (hA : A ≠ none) (A2 : Option Addr) (d : Nat) (x : List St) (h2 : RowR w w.heap.size A2 x) (hx : 0 < x.length) (ty : TypeId) (hb : l.length + x.length ≤ 10000000) (hbase : base ≤ w.heap.size) :
    ∃ A' c' w', (Builtin.append_ #[109, 109] ty #[.slice A l.length c, .slice A2 x.length d]).run Tryd.prog w = .ok (.slice A' (l.length + x.length) c') w' ∧ A' ≠ none ∧ GrR w' base A' c' (l ++ x) ∧ Below base w w' := by
  obtain ⟨i0, hi, hz0, hz1, hz2⟩ := info_parts info90
  obtain ⟨g, off, rfl, hgb, hc⟩ := h2 hx
  have hcell : ∀ j u, (cellsR x)[j]? = some u → w.cell? ((⟨g, off, none⟩ : Addr).add j) = some u := by
    intro j u hu
    have e : (⟨g, off, none⟩ : Addr).add j = ⟨g, off + j, none⟩ := by
      unfold Addr.add; split
      · rename_i h; subst h; rfl
      · rfl
    have hj : j < x.length * 2 := by have := (List.getElem?_eq_some_iff.1 hu).1; rwa [cellsR_length] at this
    rw [e]
    obtain ⟨q, hq⟩ : ∃ q, j = q * 2 ∨ j = q * 2 + 1 := ⟨j / 2, by omega⟩
    have hqx : q < x.length := by omega
    obtain ⟨k0, k1⟩ := hc q _ (List.getElem?_eq_getElem hqx)
    obtain ⟨m0, m1⟩ := cellsR_get x q _ (List.getElem?_eq_getElem hqx)
    rcases hq with rfl | rfl
    · rw [k0, ← m0, hu]
    · rw [← Nat.add_assoc, k1, ← m1, hu]
  obtain ⟨v', w', hrun, ho, hg, hn⟩ := run_append_own_wide (P := Tryd.prog) w base 109 ty 132 i0 (.agg #[.int .u64 0, .int .i64 0]) 2 16 Tryd.underlying109 hi hz0 hz1 hz2 rfl (by decide) _ _ _ h _ x.length d (cellsR x) (by rw [cellsR_length]) hcell (oneCell_cellsR x) (by unfold maxLen; omega) (by omega) hbase
  have hB : Below base w w' := (Below.refl _ w).grown hg hbase (fun k e => (h.own k e).1)
  have e2 : cellsR (l ++ x) = cellsR l ++ cellsR x := by simp [cellsR]
  have e3 : (l ++ x).length = l.length + x.length := by simp
  rcases ho.2 with ⟨e, h0⟩ | ⟨g', cap', cur', e, _⟩
  · have := (hn.1 e).1
    injection this with this _ _
    exact absurd this hA
  · rw [e] at hrun ho
    exact ⟨_, _, w', hrun, by simp, by unfold GrR; rw [e2, e3]; exact ho, hB⟩
theorem GrR.mono {w : World} {base base' c : Nat} {A : Option Addr} {l : List St} (h : GrR w base A c l) (hb : base' ≤ base) : GrR w base' A c l := by
  refine ⟨h.1, ?_⟩
  rcases h.2 with ⟨e, h0⟩ | ⟨g, cap, cur, e, hb', hc, h1⟩
  · exact .inl ⟨e, h0⟩
  · exact .inr ⟨g, cap, cur, e, by omega, hc, h1⟩
end Go.Proofs.YtoaglkjpjolacaaDoor.E
