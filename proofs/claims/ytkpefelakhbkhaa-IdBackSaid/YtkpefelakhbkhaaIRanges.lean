/-
  Right trees in memory; the reference's Right, ranges, Means, leaf, node.
-/
import Derived.Test.YtkpefelakhbkhaaITree
import Derived.IntWalk
import Derived.Deep.OwnRows
import Derived.Deep.DeepAppendWide
import Derived.Laws.CopyOwn
import Derived.Laws.OwnMore
import Derived.Deep.RegionWith
import Derived.Deep.RegionHeld
import Derived.Deep.QuietTactic
import Derived.StillTailTactics
namespace Go.Proofs.Ytkpefelakhbkhaa.I
open Go.RowKit

set_option maxRecDepth 100000 in
set_option maxHeartbeats 800000 in
theorem rRight_any (o : Bool) (ks : Fo) (A : Option Addr) (c : Nat) (w : World) (hk : Kd w w.heap.size ks A) :
    Calls Try.prog 18 #[tv o A ks.len c] w fun e w' => e = .returned (.bool (treeOf o ks).isSome) ∧ Below w.heap.size w w' := by
  have hb0 : Below w.heap.size w (w.alloc (.cells #[.bool o, .slice A ks.len c] 24)) := (Below.refl _ w).alloc (Nat.le_refl _) _
  have hcall := rright_any 32 o ks A c 2047 (w.alloc (.cells #[.bool o, .slice A ks.len c] 24)) (by omega) (by omega) (by omega) (hk.up hb0)
  have HR := Lib.hid (rightT_full o ks)
  obtain ⟨z, hz⟩ : ∃ z, rightT o ks 32 2047 = z := ⟨_, rfl⟩
  rw [hz] at hcall HR
  unfold tv at hcall ⊢
  have HB0 := Lib.hid hb0
  clear hb0 hz hk
  go_enter Try.func18, Try.ntmps18
  go_wp2_with fail
  refine hcall.mono ?_
  rintro e w1 ⟨rfl, hb1⟩
  go_wp2
  go_ret
  refine ⟨ret_bool ?_, HB0.out.trans (hb1.mono HB0.out.size)⟩
  have := HR.out
  rw [Bool.eq_iff_iff, decide_eq_true_iff, this]

/-- An append whose run is known. -/
theorem wpList_append_run {P : Program} {w w' : World} {v' : Value} {ops : Array Oper} {rest : List Oper} {o : Oper} {a : Act} {Q : Exit → Act → World → Prop} (hgd : o.guard = none) (s x : Operand) (t u : TypeId)
    (ho : o.op = .call { callee := .builtin .append, args := #[s, x], argTypes := #[t, u] }) (vs vx : Value) (hs : a.eval s = vs) (hx : a.eval x = vx) (hrun : (Builtin.append_ #[t, u] o.type #[vs, vx]).run P w = .ok v' w')
    (h : wpList P ops Q rest (a.put o.dst v') w') : wpList P ops Q (o :: rest) a w :=
  wpList_plain hgd fun _ hK => by
    unfold Oper.wp execOp
    simp only [ho, resolve, invoke, builtin, Sem.run_bind, Sem.run_pure, Result.andThen_ok, List.map_toArray, List.map_cons, List.map_nil, hs, hx, hrun]
    exact hK _ _ h

/-- A right tree in memory. -/
def InT (w : World) (B : Nat) : Tr → Value → Prop
  | .leaf o, v => ∃ A c, v = tv o A 0 c
  | .node x y, v => ∃ b off c, v = tv false (some ⟨b, off, none⟩) 2 c ∧ b < B ∧
      (∃ o A n c, w.cell? ⟨b, off, none⟩ = some (.bool o) ∧ w.cell? ⟨b, off + 1, none⟩ = some (.slice A n c) ∧ InT w B x (tv o A n c)) ∧
      (∃ o A n c, w.cell? ⟨b, off + 2, none⟩ = some (.bool o) ∧ w.cell? ⟨b, off + 3, none⟩ = some (.slice A n c) ∧ InT w B y (tv o A n c))
theorem InT.keep {w w' : World} {B : Nat} (hk : ∀ p : Addr, p.block < B → w'.cell? p = w.cell? p) : ∀ {t : Tr} {v : Value}, InT w B t v → InT w' B t v
  | .leaf _, _, h => h
  | .node _ _, _, ⟨b, off, c, e, hb, ⟨o1, A1, n1, c1, h1, h2, h3⟩, ⟨o2, A2, n2, c2, g1, g2, g3⟩⟩ =>
    ⟨b, off, c, e, hb, ⟨o1, A1, n1, c1, (hk _ hb).trans h1, (hk _ hb).trans h2, h3.keep hk⟩, ⟨o2, A2, n2, c2, (hk _ hb).trans g1, (hk _ hb).trans g2, g3.keep hk⟩⟩
theorem InT.more {w : World} {B B' : Nat} (hB : B ≤ B') : ∀ {t : Tr} {v : Value}, InT w B t v → InT w B' t v
  | .leaf _, _, h => h
  | .node _ _, _, ⟨b, off, c, e, hb, ⟨o1, A1, n1, c1, h1, h2, h3⟩, ⟨o2, A2, n2, c2, g1, g2, g3⟩⟩ =>
    ⟨b, off, c, e, by omega, ⟨o1, A1, n1, c1, h1, h2, h3.more hB⟩, ⟨o2, A2, n2, c2, g1, g2, g3.more hB⟩⟩
theorem InT.below {w w' : World} {B : Nat} {t : Tr} {v : Value} (h : InT w B t v) (hb : Below B w w') : InT w' B t v := h.keep fun _ hp => hb.cell hp
theorem InT.up {w w' : World} {t : Tr} {v : Value} (h : InT w w.heap.size t v) (hb : Below w.heap.size w w') : InT w' w'.heap.size t v := (h.below hb).more hb.size
theorem InT.form {w : World} {B : Nat} {t : Tr} {v : Value} (h : InT w B t v) : ∃ o A n c, v = tv o A n c := by
  cases t with
  | leaf o => obtain ⟨A, c, e⟩ := h; exact ⟨_, _, _, _, e⟩
  | node x y => obtain ⟨b, off, c, e, _⟩ := h; exact ⟨_, _, _, _, e⟩
/-- Trees that came in and are right in shape, one behind the other. -/
def InTs (w : World) (B : Nat) : List Tr → Nat → Nat → Prop
  | [], _, _ => True
  | t :: ts, b, off => (∃ o A n c, w.cell? ⟨b, off, none⟩ = some (.bool o) ∧ w.cell? ⟨b, off + 1, none⟩ = some (.slice A n c) ∧ InT w B t (tv o A n c)) ∧ InTs w B ts b (off + 2)
theorem one_in {w : World} {B : Nat} {o : Bool} {ks : Fo} {A : Option Addr} {c : Nat} {k : List Tr} {t : Tr} (hk : trees ks = some k) (ht : one o k = some t) (h : Kd w B ks A) (ih : ∀ b off, InF w B ks b off → InTs w B k b off) : InT w B t (tv o A ks.len c) := by
  have hlen := trees_len ks k hk
  match k, hlen, ht with
  | [], hlen, ht =>
    simp only [one, Option.some.injEq] at ht
    subst ht
    rw [← hlen]
    exact ⟨A, c, rfl⟩
  | [x, y], hlen, ht =>
    cases o with
    | true => simp [one] at ht
    | false =>
      simp only [one, Bool.false_eq_true, if_false, Option.some.injEq] at ht
      subst ht
      rcases h with h | ⟨b, off, rfl, hb, h⟩
      · rw [← hlen] at h; cases h
      · obtain ⟨h1, h2, _⟩ := ih b off h
        rw [← hlen]
        exact ⟨b, off, c, rfl, hb, h1, h2⟩
  | [_], _, ht => simp [one] at ht
  | _ :: _ :: _ :: _, _, ht => simp [one] at ht
theorem in_trees {w : World} {B : Nat} : ∀ (f : Fo) (ts : List Tr) (b off : Nat), trees f = some ts → InF w B f b off → InTs w B ts b off
  | .nil, ts, b, off, h, _ => by simp [trees] at h; subst h; trivial
  | .cons o ks rest, ts, b, off, h, ⟨⟨A, c, h1, h2, h3⟩, h4⟩ => by
    simp only [trees] at h
    obtain ⟨k, hk, h⟩ := Option.bind_eq_some_iff.1 h
    obtain ⟨t, ht, h⟩ := Option.bind_eq_some_iff.1 h
    obtain ⟨r, hr, rfl⟩ := Option.map_eq_some_iff.1 h
    exact ⟨⟨o, A, ks.len, c, h1, h2, one_in hk ht h3 (fun b off hf => in_trees ks k b off hk hf)⟩, in_trees rest r b (off + 2) hr h4⟩
theorem in_treeOf {w : World} {B : Nat} {o : Bool} {ks : Fo} {A : Option Addr} {c : Nat} {t : Tr} (ht : treeOf o ks = some t) (h : Kd w B ks A) : InT w B t (tv o A ks.len c) ∧ t.depth ≤ 32 ∧ t.nodes ≤ 2047 := by
  unfold treeOf at ht
  obtain ⟨h1, h2⟩ := Option.filter_eq_some_iff.1 ht
  obtain ⟨k, hk, h1⟩ := Option.bind_eq_some_iff.1 h1
  simp only [Bool.and_eq_true, decide_eq_true_eq] at h2
  exact ⟨one_in hk h1 h (fun b off hf => in_trees ks k b off hk hf), h2.1, h2.2⟩

/-- Ranges as cells; a slice of ranges of the call's own, nil if it holds none. -/
def cellsR (l : List (Nat × Nat)) : List Value := l.flatMap fun r => [.int .u64 (r.1 : Int), .int .u64 (r.2 : Int)]
theorem cellsR_length (l : List (Nat × Nat)) : (cellsR l).length = l.length * 2 := by
  induction l with
  | nil => rfl
  | cons p t ih => simp [cellsR] at ih ⊢; omega
theorem cellsR_get : ∀ (l : List (Nat × Nat)) (j : Nat) (r : Nat × Nat), l[j]? = some r → (cellsR l)[j * 2]? = some (.int .u64 (r.1 : Int)) ∧ (cellsR l)[j * 2 + 1]? = some (.int .u64 (r.2 : Int))
  | [], j, p, h => by simp at h
  | q :: t, 0, p, h => by simp at h; subst h; simp [cellsR]
  | q :: t, j + 1, p, h => by
    have ih := cellsR_get t j p (by simpa using h)
    have e : cellsR (q :: t) = .int .u64 (q.1 : Int) :: .int .u64 (q.2 : Int) :: cellsR t := by simp [cellsR]
    rw [e, show (j + 1) * 2 = j * 2 + 1 + 1 by omega]
    simp only [List.getElem?_cons_succ]
    exact ih
/-- A slice of ranges that reads as l and lies below block B. -/
def RowR (w : World) (B : Nat) (A : Option Addr) (l : List (Nat × Nat)) : Prop :=
  0 < l.length → ∃ b off, A = some ⟨b, off, none⟩ ∧ b < B ∧ ∀ j r, l[j]? = some r → w.cell? ⟨b, off + j * 2, none⟩ = some (.int .u64 (r.1 : Int)) ∧ w.cell? ⟨b, off + j * 2 + 1, none⟩ = some (.int .u64 (r.2 : Int))
theorem RowR.keep {w w' : World} {B : Nat} {A : Option Addr} {l : List (Nat × Nat)} (h : RowR w B A l) (hk : ∀ p : Addr, p.block < B → w'.cell? p = w.cell? p) : RowR w' B A l :=
  fun hn => by obtain ⟨b, off, e, hb, hc⟩ := h hn; exact ⟨b, off, e, hb, fun j p hj => ⟨(hk _ hb).trans (hc j p hj).1, (hk _ hb).trans (hc j p hj).2⟩⟩
theorem RowR.below {w w' : World} {B : Nat} {A : Option Addr} {l : List (Nat × Nat)} (h : RowR w B A l) (hb : Below B w w') : RowR w' B A l := h.keep fun _ hp => hb.cell hp
theorem RowR.more {w : World} {B B' : Nat} {A : Option Addr} {l : List (Nat × Nat)} (h : RowR w B A l) (hB : B ≤ B') : RowR w B' A l := fun hn => by obtain ⟨b, off, e, hb, hc⟩ := h hn; exact ⟨b, off, e, by omega, hc⟩
theorem RowR.up {w w' : World} {A : Option Addr} {l : List (Nat × Nat)} (h : RowR w w.heap.size A l) (hb : Below w.heap.size w w') : RowR w' w'.heap.size A l := (h.below hb).more hb.size
def GrR (w : World) (base : Nat) (A : Option Addr) (c : Nat) (l : List (Nat × Nat)) : Prop := w.ownsRow base 62 2 (.slice A l.length c) l.length (cellsR l)
theorem GrR.nil (w : World) (base : Nat) : GrR w base none 0 [] := ⟨by simp [cellsR], .inl ⟨rfl, rfl⟩⟩
theorem GrR.cases {w : World} {base : Nat} {A : Option Addr} {c : Nat} {l : List (Nat × Nat)} (h : GrR w base A c l) : (A = none ∧ l = [] ∧ c = 0) ∨ ∃ g cur, A = some ⟨g, 0, none⟩ ∧ base ≤ g ∧ w.heap[g]? = some (.cells cur 62 (0, 0)) ∧ l.length ≤ c ∧ c ≤ maxLen ∧ cur.size = c * 2 ∧ cur.toList.take (l.length * 2) = cellsR l := by
  rcases h.2 with ⟨e, h0⟩ | ⟨g, cap, cur, e, hb, hc, h1, h2, h3, h4⟩
  · injection e with e1 e2 e3
    exact .inl ⟨e1, List.eq_nil_of_length_eq_zero e2, e3⟩
  · injection e with e1 e2 e3
    subst e1; subst e3
    exact .inr ⟨g, cur, rfl, hb, hc, h1, h2, h3, h4⟩
theorem GrR.row {w : World} {base c : Nat} {A : Option Addr} {l : List (Nat × Nat)} (h : GrR w base A c l) : RowR w w.heap.size A l := by
  rcases h.cases with ⟨rfl, rfl, rfl⟩ | ⟨g, cur, rfl, hb, hc, h1, h2, h3, h4⟩
  · intro hn; simp at hn
  · refine fun _ => ⟨g, 0, rfl, (Array.getElem?_eq_some_iff.1 hc).1, fun j p hp => ?_⟩
    have hj := (List.getElem?_eq_some_iff.1 hp).1
    have hcell : ∀ k, k < l.length * 2 → w.cell? ⟨g, k, none⟩ = (cellsR l)[k]? := fun k hk => by
      rw [cell_of_row w g k cur 62 (0, 0) hc, ← h4, List.getElem?_take, if_pos hk]; simp
    obtain ⟨g0, g1⟩ := cellsR_get l j p hp
    refine ⟨?_, ?_⟩
    · rw [Nat.zero_add, hcell _ (by omega), g0]
    · rw [Nat.zero_add, hcell _ (by omega), g1]
theorem GrR.own {w : World} {base c : Nat} {A : Option Addr} {l : List (Nat × Nat)} (h : GrR w base A c l) : ∀ k, (Value.slice A l.length c).ownBlock = some k → base ≤ k ∧ k < w.heap.size := by
  rcases h.cases with ⟨rfl, rfl, rfl⟩ | ⟨g, cur, rfl, hb, hc, _⟩
  · intro k e; simp [Value.ownBlock] at e
  · intro k e
    simp only [Value.ownBlock, Option.some.injEq] at e
    subst e
    exact ⟨hb, (Array.getElem?_eq_some_iff.1 hc).1⟩
theorem GrR.below {w w' : World} {base c B : Nat} {A : Option Addr} {l : List (Nat × Nat)} (h : GrR w base A c l) (hb : Below B w w') (hB : w.heap.size ≤ B) : GrR w' base A c l := by
  refine ⟨h.1, ?_⟩
  rcases h.2 with ⟨e, h0⟩ | ⟨g, cap, cur, e, hb', hc, h1⟩
  · exact .inl ⟨e, h0⟩
  · have := (Array.getElem?_eq_some_iff.1 hc).1
    exact .inr ⟨g, cap, cur, e, hb', (hb.block g (by omega)).trans hc, h1⟩
theorem info52 : (Try.prog.info? 62).map (fun i => (i.zero, i.size, i.bytes)) = some (some (.agg #[.int .u64 0, .int .u64 0]), 2, 16) := by kernel_rfl
theorem oneCell_cellsR (l : List (Nat × Nat)) : ∀ v ∈ cellsR l, v.oneCell' = true := by
  intro v hv
  obtain ⟨p, _, h⟩ := List.mem_flatMap.1 hv
  simp only [List.mem_cons, List.not_mem_nil, or_false] at h
  rcases h with rfl | rfl <;> rfl
/-- Whatever is not a row of ranges lies as it lay. -/
def Fr (w w' : World) : Prop := ∀ (k : Nat) (o : Obj), w.heap[k]? = some o → (∀ cs fr, o ≠ .cells cs 62 fr) → w'.heap[k]? = some o
theorem Fr.refl (w : World) : Fr w w := fun _ _ h _ => h
theorem Fr.trans {a b c : World} (h : Fr a b) (g : Fr b c) : Fr a c := fun k o hk ho => g k o (h k o hk ho) ho
theorem Fr.alloc (w : World) (x : Obj) : Fr w (w.alloc x) := fun k _ hk _ => (Below.heap_alloc w x k (Array.getElem?_eq_some_iff.1 hk).1).trans hk
theorem Fr.cell {w w' : World} (h : Fr w w') {k : Nat} {cs : Array Value} {t : TypeId} (hk : w.heap[k]? = some (.cells cs t (0, 0))) (ht : t ≠ 62) : w'.heap[k]? = some (.cells cs t (0, 0)) := h k _ hk (fun cs' fr e => by injection e with _ e2 _; exact ht e2)
theorem GrR.fr {w w' : World} {base c : Nat} {A : Option Addr} {l : List (Nat × Nat)} (h : GrR w base A c l) (hg : w.grownBy w' (Value.slice A l.length c).ownBlock) : Fr w w' := fun k o hk ho => by
  refine (hg.block k (Array.getElem?_eq_some_iff.1 hk).1 (fun e => ?_)).trans hk
  rcases h.cases with ⟨rfl, h2, rfl⟩ | ⟨g, cur, rfl, _, hc, _⟩
  · simp [Value.ownBlock] at e
  · obtain rfl : k = g := by simpa [Value.ownBlock] using e
    rw [hc] at hk
    injection hk with hk
    exact ho cur (0, 0) hk.symm
/-- append(out, r): one range, in a block of its own. -/
theorem GrR.one {w : World} {base c : Nat} {A : Option Addr} {l : List (Nat × Nat)} (h : GrR w base A c l) (r : Nat × Nat) (ty : TypeId) (hb : l.length ≤ 10000000) (hbase : base ≤ w.heap.size) :
    ∃ A' c' w', (Builtin.append_ #[51, 51] ty #[.slice A l.length c, .slice (some ⟨w.heap.size, 0, none⟩) 1 1]).run Try.prog (w.alloc (.cells #[.int .u64 (r.1 : Int), .int .u64 (r.2 : Int)] 62)) = .ok (.slice A' (l.length + 1) c') w' ∧ GrR w' base A' c' (l ++ [r]) ∧ Below base w w' ∧ Fr w w' := by
  obtain ⟨i0, hi, hz0, hz1, hz2⟩ := info_parts info52
  have hB0 : Below base w (w.alloc (.cells #[.int .u64 (r.1 : Int), .int .u64 (r.2 : Int)] 62)) := (Below.refl _ w).alloc hbase _
  have hBt : Below w.heap.size w (w.alloc (.cells #[.int .u64 (r.1 : Int), .int .u64 (r.2 : Int)] 62)) := (Below.refl _ w).alloc (Nat.le_refl _) _
  have hcell : ∀ j u, (cellsR [r])[j]? = some u → (w.alloc (.cells #[.int .u64 (r.1 : Int), .int .u64 (r.2 : Int)] 62)).cell? ((⟨w.heap.size, 0, none⟩ : Addr).add j) = some u := by
    intro j u hu
    have e : (⟨w.heap.size, 0, none⟩ : Addr).add j = ⟨w.heap.size, j, none⟩ := by
      unfold Addr.add; split
      · rename_i h; subst h; rfl
      · simp
    rw [e, cell_of_row _ _ j _ 62 (0, 0) (heap_alloc_new w _)]
    simpa [cellsR] using hu
  obtain ⟨v', w', hrun, ho, hg, hn⟩ := run_append_own_wide (P := Try.prog) (w.alloc (.cells #[.int .u64 (r.1 : Int), .int .u64 (r.2 : Int)] 62)) base 51 ty 62 i0 (.agg #[.int .u64 0, .int .u64 0]) 2 16 Try.underlying51 hi hz0 hz1 hz2 rfl (by decide) _ _ _ (h.below hBt (Nat.le_refl _)) _ 1 1 (cellsR [r]) (by simp [cellsR]) hcell (oneCell_cellsR [r]) (by unfold maxLen; omega) (by omega) (by simp; omega)
  have hB : Below base w w' := hB0.grown hg (by simp; omega) (fun k e => (h.own k e).1)
  have e2 : cellsR (l ++ [r]) = cellsR l ++ cellsR [r] := by simp [cellsR]
  have e3 : (l ++ [r]).length = l.length + 1 := by simp
  rcases ho.2 with ⟨e, h0⟩ | ⟨g', cap', cur, e, _⟩
  · omega
  · rw [e] at hrun ho
    exact ⟨_, _, w', hrun, by unfold GrR; rw [e2, e3]; exact ho, hB, (Fr.alloc w _).trans ((h.below hBt (Nat.le_refl _)).fr hg)⟩
def LaysR (l : List (Nat × Nat)) (base : Nat) (w : World) (e : Ending) (w' : World) : Prop := ∃ A c, e = .returned (.slice A l.length c) ∧ GrR w' base A c l ∧ Below base w w' ∧ Fr w w'

theorem ranges_len : ∀ (t : Tr) (k a : Nat), (ranges t a (2 ^ k)).length ≤ t.nodes := by
  have key : ∀ (t : Tr) (n a : Nat), (ranges t a n).length ≤ t.nodes := by
    intro t
    induction t with
    | leaf o => intro n a; cases o <;> simp [ranges, Tr.nodes]
    | node x y ihx ihy => intro n a; simp only [ranges, List.length_append, Tr.nodes]; have := ihx (n / 2) a; have := ihy (n / 2) (a + n / 2); omega
  exact fun t k a => key t _ a

set_option maxRecDepth 100000 in
set_option maxHeartbeats 1600000 in
theorem ranges_any : ∀ (t : Tr) (k n a : Nat) (A : Option Addr) (c : Nat) (l : List (Nat × Nat)) (base : Nat) (v : Value) (w : World), t.depth ≤ k → n = 2 ^ k → a + n ≤ 1000000000000 → l.length + t.nodes ≤ 1000000 → InT w base t v → GrR w base A c l → base ≤ w.heap.size →
    Calls Try.prog 67 #[.slice A l.length c, v, .int .u64 (a : Int), .int .u64 (n : Int)] w (LaysR (l ++ ranges t a n) base w) := by
  intro t
  induction t with
  | leaf o =>
    rintro k n a A c l base v w hd hn ha hl ⟨A1, c1, rfl⟩ hg hbase
    unfold tv
    cases o with
    | false =>
      have HR : Hid (l ++ ranges (.leaf false) a n = l) := by show _ = _; simp [ranges]
      have HG := Lib.hid hg
      clear hn hg
      go_enter Try.func67, Try.ntmps67
      go_wp2
      go_ret
      refine ⟨A, c, ?_, ?_, (Below.refl _ w).alloc hbase _, Fr.alloc w _⟩
      · rw [HR.out]; rfl
      · rw [HR.out]; exact HG.out.below ((Below.refl _ w).alloc (Nat.le_refl _) _) (Nat.le_refl _)
    | true =>
      have HR : Hid (l ++ ranges (.leaf true) a n = l ++ [(a, a + n)]) := by show _ = _; simp [ranges]
      have hb0 : Below w.heap.size w (w.alloc (.cells #[.bool true, .slice A1 0 c1] 24)) := (Below.refl _ w).alloc (Nat.le_refl _) _
      obtain ⟨A2, c2, w2, hap, hg2, hb2, hf2⟩ := (hg.below hb0 (Nat.le_refl _)).one (a, a + n) 51 (by simp [Tr.nodes] at hl; omega) (by simp; omega)
      simp only [World.size_alloc, show ((a + n : Nat) : Int) = (a : Int) + (n : Int) by omega] at hap
      have HAP := Lib.hid hap
      have HG2 := Lib.hid hg2
      have HB2 : Hid (Below base w w2) := ((Below.refl _ w).alloc hbase _).trans hb2
      have HF2 : Hid (Fr w w2) := (Fr.alloc w _).trans hf2
      clear hn hg hap hg2 hb2 hf2 hb0
      go_enter Try.func67, Try.ntmps67
      go_wp2_with (at_builtin; refine wpList_append_run rfl _ _ _ _ rfl _ _ rfl rfl HAP.out ?_; clear HAP)
      go_ret
      refine ⟨A2, c2, ?_, ?_, HB2.out, HF2.out⟩
      · rw [HR.out, List.length_append]; rfl
      · rw [HR.out]; exact HG2.out
  | node x y ihx ihy =>
    rintro k n a A c l base v w hd hn ha hl ⟨b, off, c1, rfl, hb, ⟨o1, A1, n1, d1, e1, e2, e3⟩, ⟨o2, A2, n2, d2, g1, g2, g3⟩⟩ hg hbase
    unfold tv
    obtain ⟨k, rfl⟩ : ∃ k', k = k' + 1 := ⟨k - 1, by simp only [Tr.depth] at hd; omega⟩
    obtain ⟨h, hh⟩ : ∃ h, 2 ^ k = h := ⟨_, rfl⟩
    have hn2 : n = h * 2 := by rw [hn, Nat.pow_succ, hh]
    have hq : (n : Int).tdiv 2 = (h : Int) := by rw [Int.tdiv_eq_ediv_of_nonneg (by omega)]; omega
    have hwh : IntKind.u64.wrap (h : Int) = (h : Int) := by rw [IntKind.wrap_u64]; omega
    have hwa : IntKind.u64.wrap ((a : Int) + (h : Int)) = (a : Int) + (h : Int) := by rw [IntKind.wrap_u64]; omega
    simp only [Tr.depth] at hd
    simp only [Tr.nodes] at hl
    have HR : Hid (l ++ ranges (.node x y) a n = (l ++ ranges x a h) ++ ranges y (a + h) h) := by
      show _ = _
      simp only [ranges, show n / 2 = h by omega, List.append_assoc]
    have hlx : (ranges x a h).length ≤ x.nodes := by rw [← hh]; exact ranges_len x k a
    have hB0 : Below base w (w.alloc (.cells #[.bool false, .slice (some ⟨b, off, none⟩) 2 c1] 24)) := (Below.refl _ w).alloc hbase _
    have hBt : Below w.heap.size w (w.alloc (.cells #[.bool false, .slice (some ⟨b, off, none⟩) 2 c1] 24)) := (Below.refl _ w).alloc (Nat.le_refl _) _
    have hbox : (w.alloc (.cells #[.bool false, .slice (some ⟨b, off, none⟩) 2 c1] 24)).heap[w.heap.size]? = some (.cells #[.bool false, .slice (some ⟨b, off, none⟩) 2 c1] 24 (0, 0)) := heap_alloc_new w _
    have m1 := (hB0.cell (p := ⟨b, off, none⟩) hb).trans e1
    have m2 := (hB0.cell (p := ⟨b, off + 1, none⟩) hb).trans e2
    have hc1 := ihx k h a A c l base (tv o1 A1 n1 d1) (w.alloc (.cells #[.bool false, .slice (some ⟨b, off, none⟩) 2 c1] 24)) (by omega) hh.symm (by omega) (by omega) (e3.below hB0) (hg.below hBt (Nat.le_refl _)) (by simp; omega)
    unfold tv at hc1
    obtain ⟨L, hL⟩ : ∃ L, l ++ ranges x a h = L := ⟨_, rfl⟩
    have hLl : L.length ≤ l.length + x.nodes := by rw [← hL, List.length_append]; omega
    rw [hL] at hc1 HR
    have HB0 := Lib.hid hB0
    have HBX := Lib.hid hbox
    have HBB := Lib.hid hb
    have H2 := Lib.hid hn2
    have HHH := Lib.hid hh
    clear hg ihx hh e1 e2 e3 hB0 hBt hbox hn hn2 hL hlx hb
    go_enter Try.func67, Try.ntmps67
    go_wp2_with fail
    refine hc1.mono ?_
    rintro e w2 ⟨A3, c3, rfl, hg3, hb3, hf3⟩
    have hbox2 := hf3.cell HBX.out (by decide)
    have c0 : w2.cell? ⟨w.heap.size, 0, none⟩ = some (.bool false) := by rw [cell_of_row w2 _ 0 _ 24 (0, 0) hbox2]; rfl
    have c1' : w2.cell? ⟨w.heap.size, 1, none⟩ = some (.slice (some ⟨b, off, none⟩) 2 c1) := by rw [cell_of_row w2 _ 1 _ 24 (0, 0) hbox2]; rfl
    have hB2 : Below base w w2 := HB0.out.trans hb3
    have m3 := (hB2.cell (p := ⟨b, off + 2, none⟩) HBB.out).trans g1
    have m4 := (hB2.cell (p := ⟨b, off + 2 + 1, none⟩) HBB.out).trans g2
    have hc2 := ihy k h (a + h) A3 c3 L base (tv o2 A2 n2 d2) w2 (by omega) HHH.out.symm (by have := H2.out; omega) (by omega) (g3.below hB2) hg3 (Nat.le_trans hbase hB2.size)
    unfold tv at hc2
    simp only [show ((a + h : Nat) : Int) = (a : Int) + (h : Int) by omega] at hc2
    have HB2 := Lib.hid hB2
    have HF3 : Hid (Fr w w2) := (Fr.alloc w _).trans hf3
    have hh2 := H2.out
    clear m1 m2 hc1 hg3 hb3 hf3 hbox2 hB2 g1 g2 g3 ihy
    go_wp2_with fail
    refine hc2.mono ?_
    rintro e w4 ⟨A5, c5, rfl, hg5, hb5, hf5⟩
    go_wp2
    go_ret
    refine ⟨A5, c5, ?_, ?_, HB2.out.trans hb5, HF3.out.trans hf5⟩
    · rw [HR.out, List.length_append]; rfl
    · rw [HR.out]; exact hg5

set_option maxRecDepth 100000 in
set_option maxHeartbeats 800000 in
theorem means_any (t : Tr) (v : Value) (w : World) (hd : t.depth ≤ 32) (hn : t.nodes ≤ 2047) (ht : InT w w.heap.size t v) : Calls Try.prog 38 #[v] w (LaysR (ranges t 0 4294967296) w.heap.size w) := by
  obtain ⟨o, A, n, c, rfl⟩ := ht.form
  have hb0 : Below w.heap.size w (w.alloc (.cells #[.bool o, .slice A n c] 24)) := (Below.refl _ w).alloc (Nat.le_refl _) _
  have hcall := ranges_any t 32 4294967296 0 none 0 [] w.heap.size (tv o A n c) (w.alloc (.cells #[.bool o, .slice A n c] 24)) hd rfl (by omega) (by simp; omega) (ht.below hb0) (GrR.nil _ _) (by simp)
  rw [List.nil_append] at hcall
  unfold tv at hcall ⊢
  simp only [List.length_nil, Int.natCast_zero] at hcall
  have HB0 := Lib.hid hb0
  clear hb0 ht
  go_enter Try.func38, Try.ntmps38
  go_wp2_with fail
  refine hcall.mono ?_
  rintro e w1 ⟨A1, c1, rfl, hg1, hb1, hf1⟩
  go_wp2
  go_ret
  exact ⟨A1, c1, rfl, hg1, HB0.out.trans hb1, (Fr.alloc w _).trans hf1⟩
set_option maxRecDepth 100000 in
set_option maxHeartbeats 800000 in
theorem leaf_any (o : Bool) (w : World) : Calls Try.prog 65 #[.bool o] w fun e w' => e = .returned (tv o none 0 0) ∧ Below w.heap.size w w' := by
  go_enter Try.func65, Try.ntmps65
  go_wp2
  refine bodyPost_ret (v := tv o none 0 0) (by simp [results, Try.f65, go_sem, tv]) rfl ?_
  exact ⟨rfl, (Below.refl _ w).alloc (Nat.le_refl _) _⟩
/-- A call that hands back a tree. -/
def Trees (t : Tr) (w : World) (e : Ending) (w' : World) : Prop := ∃ v, e = .returned v ∧ InT w' w'.heap.size t v ∧ Below w.heap.size w w'
theorem two_in {w W : World} {x y : Tr} {o1 o2 : Bool} {A1 A2 : Option Addr} {n1 n2 c1 c2 g : Nat} (hb : Below w.heap.size w W) (hg : W.heap[g]? = some (.cells #[.bool o1, .slice A1 n1 c1, .bool o2, .slice A2 n2 c2] 24 (0, 0))) (hx : InT w w.heap.size x (tv o1 A1 n1 c1)) (hy : InT w w.heap.size y (tv o2 A2 n2 c2)) :
    InT W W.heap.size (.node x y) (tv false (some ⟨g, 0, none⟩) 2 2) := by
  refine ⟨g, 0, 2, rfl, (Array.getElem?_eq_some_iff.1 hg).1, ⟨o1, A1, n1, c1, ?_, ?_, hx.up hb⟩, ⟨o2, A2, n2, c2, ?_, ?_, hy.up hb⟩⟩
  · rw [cell_of_row W g 0 _ 24 (0, 0) hg]; rfl
  · rw [cell_of_row W g 1 _ 24 (0, 0) hg]; rfl
  · rw [cell_of_row W g 2 _ 24 (0, 0) hg]; rfl
  · rw [cell_of_row W g 3 _ 24 (0, 0) hg]; rfl
theorem three_boxes (w : World) (o1 o2 o3 : Obj) : Below w.heap.size w (((w.alloc o1).alloc o2).alloc o3) := (((Below.refl _ w).alloc (Nat.le_refl _) _).alloc (by simp) _).alloc (by simp; omega) _
theorem four_boxes (w : World) (o1 o2 o3 o4 : Obj) : Below w.heap.size w ((((w.alloc o1).alloc o2).alloc o3).alloc o4) := (three_boxes w o1 o2 o3).alloc (by simp; omega) _
set_option maxRecDepth 100000 in
set_option maxHeartbeats 800000 in
theorem node_no (x y : Tr) (o1 o2 : Bool) (A1 A2 : Option Addr) (n1 n2 c1 c2 : Nat) (w : World) (hx : InT w w.heap.size x (tv o1 A1 n1 c1)) (hy : InT w w.heap.size y (tv o2 A2 n2 c2)) (hne : ¬ (n1 = 0 ∧ n2 = 0 ∧ o1 = o2)) : Calls Try.prog 66 #[tv o1 A1 n1 c1, tv o2 A2 n2 c2] w (Trees (.node x y) w) := by
  have HX := Lib.hid hx
  have HY := Lib.hid hy
  clear hx hy
  unfold tv
  by_cases h1 : n1 = 0
  · by_cases h2 : n2 = 0
    · have h3 : ¬ o1 = o2 := fun h => hne ⟨h1, h2, h⟩
      have h3b : (o1 == o2) = false := beq_eq_false_iff_ne.2 h3
      subst h1; subst h2
      clear hne h3
      go_enter Try.func66, Try.ntmps66
      go_wp2
      refine bodyPost_ret (v := tv false (some ⟨w.heap.size + 1 + 1 + 1, 0, none⟩) 2 2) (by simp [results, Try.f66, go_sem, tv]) rfl ?_
      exact ⟨_, rfl, two_in (four_boxes w _ _ _ _) (by have := heap_alloc_new (((w.alloc (.cells #[.bool o1, .slice A1 0 c1] 24)).alloc (.cells #[.bool o2, .slice A2 0 c2] 24)).alloc (.cells #[.bool false, .slice (some ⟨w.heap.size + 1 + 1 + 1, 0, none⟩) 2 2] 24)) (.cells #[.bool o1, .slice A1 0 c1, .bool o2, .slice A2 0 c2] 24); simpa only [World.size_alloc] using this) HX.out HY.out, four_boxes w _ _ _ _⟩
    · have h2b : ((n2 : Int) == 0) = false := beq_eq_false_iff_ne.2 (by omega)
      subst h1
      clear hne
      go_enter Try.func66, Try.ntmps66
      go_wp2
      refine bodyPost_ret (v := tv false (some ⟨w.heap.size + 1 + 1 + 1, 0, none⟩) 2 2) (by simp [results, Try.f66, go_sem, tv]) rfl ?_
      exact ⟨_, rfl, two_in (four_boxes w _ _ _ _) (by have := heap_alloc_new (((w.alloc (.cells #[.bool o1, .slice A1 0 c1] 24)).alloc (.cells #[.bool o2, .slice A2 n2 c2] 24)).alloc (.cells #[.bool false, .slice (some ⟨w.heap.size + 1 + 1 + 1, 0, none⟩) 2 2] 24)) (.cells #[.bool o1, .slice A1 0 c1, .bool o2, .slice A2 n2 c2] 24); simpa only [World.size_alloc] using this) HX.out HY.out, four_boxes w _ _ _ _⟩
  · have h1b : ((n1 : Int) == 0) = false := beq_eq_false_iff_ne.2 (by omega)
    clear hne
    go_enter Try.func66, Try.ntmps66
    go_wp2
    refine bodyPost_ret (v := tv false (some ⟨w.heap.size + 1 + 1 + 1, 0, none⟩) 2 2) (by simp [results, Try.f66, go_sem, tv]) rfl ?_
    exact ⟨_, rfl, two_in (four_boxes w _ _ _ _) (by have := heap_alloc_new (((w.alloc (.cells #[.bool o1, .slice A1 n1 c1] 24)).alloc (.cells #[.bool o2, .slice A2 n2 c2] 24)).alloc (.cells #[.bool false, .slice (some ⟨w.heap.size + 1 + 1 + 1, 0, none⟩) 2 2] 24)) (.cells #[.bool o1, .slice A1 n1 c1, .bool o2, .slice A2 n2 c2] 24); simpa only [World.size_alloc] using this) HX.out HY.out, four_boxes w _ _ _ _⟩
set_option maxRecDepth 100000 in
set_option maxHeartbeats 800000 in
theorem node_any (x y : Tr) (u v : Value) (w : World) (hx : InT w w.heap.size x u) (hy : InT w w.heap.size y v) : Calls Try.prog 66 #[u, v] w (Trees (x.mk2 y) w) := by
  cases x with
  | leaf o =>
    have hx' := hx
    obtain ⟨A1, c1, rfl⟩ := hx
    cases y with
    | leaf o2 =>
      have hy' := hy
      obtain ⟨A2, c2, rfl⟩ := hy
      by_cases h : o = o2
      · subst h
        rw [Tr.mk2_same]
        unfold tv
        go_enter Try.func66, Try.ntmps66
        go_wp2
        refine bodyPost_ret (v := tv o A1 0 c1) (by simp [results, Try.f66, go_sem, tv]) rfl ?_
        exact ⟨_, rfl, ⟨A1, c1, rfl⟩, three_boxes w _ _ _⟩
      · rw [show (Tr.leaf o).mk2 (.leaf o2) = .node (.leaf o) (.leaf o2) by simp [Tr.mk2, h]]
        exact node_no _ _ _ _ _ _ _ _ _ _ w hx' hy' (fun e => h e.2.2)
    | node y1 y2 =>
      have hy' := hy
      obtain ⟨b, off, c, rfl, _⟩ := hy
      exact node_no _ _ _ _ _ _ _ _ _ _ w hx' hy' (fun e => by cases e.2.1)
  | node x1 x2 =>
    have hx' := hx
    obtain ⟨b, off, c, rfl, _⟩ := hx
    obtain ⟨o, A, n, c, rfl⟩ := hy.form
    rw [show (Tr.node x1 x2).mk2 y = .node (.node x1 x2) y by cases y <;> rfl]
    exact node_no _ _ _ _ _ _ _ _ _ _ w hx' hy (fun e => by cases e.1)
end Go.Proofs.Ytkpefelakhbkhaa.I
