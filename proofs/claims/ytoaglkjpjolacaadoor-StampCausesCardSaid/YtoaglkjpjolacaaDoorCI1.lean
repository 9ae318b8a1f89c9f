/-
  Plain facts on trees: which are right, their normal form, what ranges mean. No program here.
-/
import Derived.Below
import Derived.Test.YtoaglkjpjolacaaDoorProg
import Derived.WalkKit
import Derived.WalkSpells
import Derived.WalkLawsBesides
import Derived.LoopTactic
import Derived.Laws.ShiftsVar
import Derived.Laws.BitsAllLaws
import Derived.Lib.Hide
import Derived.Deep.LoopGhost
import Derived.IntWalk
import Derived.Deep.OwnRows
import Derived.Deep.DeepAppendWide
import Derived.Laws.CopyOwn
import Derived.Laws.OwnMore
import Derived.Deep.RegionWith
import Derived.Deep.RegionHeld
import Derived.Deep.QuietTactic
import Derived.StillTailTactics
namespace Go.Proofs.YtoaglkjpjolacaaDoor.I
/-- A right tree's shape. -/
inductive Tr where
  | leaf (o : Bool) : Tr
  | node (l r : Tr) : Tr
/-- Whatever trees came in, one behind the other: the first one's One, its kids, the rest. -/
inductive Fo where
  | nil : Fo
  | cons (o : Bool) (ks rest : Fo) : Fo
namespace Tr
def depth : Tr → Nat
  | leaf _ => 0
  | node l r => max l.depth r.depth + 1
def nodes : Tr → Nat
  | leaf _ => 1
  | node l r => l.nodes + r.nodes + 1
theorem nodes_pos (t : Tr) : 1 ≤ t.nodes := by cases t <;> simp [nodes]
/-- Two kids, put together. -/
def mk2 : Tr → Tr → Tr
  | leaf x, leaf y => if x = y then leaf x else node (leaf x) (leaf y)
  | a, b => node a b
def norm : Tr → Tr
  | leaf o => leaf o
  | node l r => mk2 l.norm r.norm
theorem mk2_leaf {a b : Tr} {o : Bool} (h : mk2 a b = leaf o) : a = leaf o ∧ b = leaf o := by
  cases a with
  | leaf x =>
    cases b with
    | leaf y =>
      simp only [mk2] at h
      split at h
      · rename_i e; subst e; exact ⟨h, h⟩
      · cases h
    | node _ _ => simp [mk2] at h
  | node _ _ => cases b <;> simp [mk2] at h
theorem mk2_same (o : Bool) : mk2 (leaf o) (leaf o) = leaf o := by simp [mk2]
/-- A measure says what a tree says. -/
def Cov (μ : Nat → Nat → Nat) : Tr → Nat → Nat → Prop
  | leaf o, k, a => μ a k = if o then 2 ^ k else 0
  | node _ _, 0, _ => False
  | node l r, k + 1, a => Cov μ l k a ∧ Cov μ r k (a + 2 ^ k) ∧ μ a (k + 1) = μ a k + μ (a + 2 ^ k) k
theorem Cov.depth {μ : Nat → Nat → Nat} : ∀ {t : Tr} {k a : Nat}, Cov μ t k a → t.depth ≤ k
  | leaf o, k, a, h => by simp [Tr.depth]
  | node _ _, 0, _, h => h.elim
  | node l r, k + 1, a, ⟨h1, h2, h3⟩ => by have := h1.depth; have := h2.depth; simp only [Tr.depth]; omega
end Tr
/-- The ranges of a tree. -/
def ranges : Tr → Nat → Nat → List (Nat × Nat)
  | .leaf o, a, n => if o then [(a, a + n)] else []
  | .node l r, a, n => ranges l a (n / 2) ++ ranges r (a + n / 2) (n / 2)
/-- How many trees; whether they are right in shape; how many nodes are left of l behind them; below 0: no. -/
def Fo.len : Fo → Nat
  | .nil => 0
  | .cons _ _ rest => rest.len + 1
def one (o : Bool) : List Tr → Option Tr
  | [] => some (.leaf o)
  | [x, y] => if o = true then none else some (.node x y)
  | _ => none
def trees : Fo → Option (List Tr)
  | .nil => some []
  | .cons o ks rest => (trees ks).bind fun k => (one o k).bind fun t => (trees rest).map (t :: ·)
theorem trees_len : ∀ (f : Fo) (ts : List Tr), trees f = some ts → ts.length = f.len
  | .nil, ts, h => by simp [trees] at h; subst h; rfl
  | .cons o ks rest, ts, h => by
    simp only [trees] at h
    obtain ⟨k, _, h⟩ := Option.bind_eq_some_iff.1 h
    obtain ⟨t, _, h⟩ := Option.bind_eq_some_iff.1 h
    obtain ⟨r, hr, rfl⟩ := Option.map_eq_some_iff.1 h
    simp [Fo.len, trees_len rest r hr]
def sumN (ts : List Tr) : Nat := (ts.map Tr.nodes).sum
/-- The right tree that came in, if it is one. -/
def treeOf (o : Bool) (ks : Fo) : Option Tr := ((trees ks).bind (one o)).filter fun t => decide (t.depth ≤ 32) && decide (t.nodes ≤ 2047)
end Go.Proofs.YtoaglkjpjolacaaDoor.I
namespace Go.Proofs.YtoaglkjpjolacaaDoor.I
open Go.RowKit
theorem ret_bool {a b : Bool} (h : a = b) : Ending.returned (.bool a) = .returned (.bool b) := by rw [h]

/-- Trees one behind the other from a cell on, all below block B. -/
def InF (w : World) (B : Nat) : Fo → Nat → Nat → Prop
  | .nil, _, _ => True
  | .cons o ks rest, b, off => (∃ A c, w.cell? ⟨b, off, none⟩ = some (.bool o) ∧ w.cell? ⟨b, off + 1, none⟩ = some (.slice A ks.len c) ∧ (ks.len = 0 ∨ ∃ b' off', A = some ⟨b', off', none⟩ ∧ b' < B ∧ InF w B ks b' off')) ∧ InF w B rest b (off + 2)
/-- A slice of trees. -/
def Kd (w : World) (B : Nat) (ks : Fo) (A : Option Addr) : Prop := ks.len = 0 ∨ ∃ b off, A = some ⟨b, off, none⟩ ∧ b < B ∧ InF w B ks b off
/-- A tree as a value. -/
def tv (o : Bool) (A : Option Addr) (n c : Nat) : Value := .agg #[.bool o, .slice A n c]
theorem InF.keep {w w' : World} {B : Nat} (hk : ∀ p : Addr, p.block < B → w'.cell? p = w.cell? p) : ∀ {f : Fo} {b off : Nat}, b < B → InF w B f b off → InF w' B f b off
  | .nil, _, _, _, _ => trivial
  | .cons o ks rest, b, off, hb, ⟨⟨A, c, h1, h2, h3⟩, h4⟩ => by
    refine ⟨⟨A, c, (hk _ hb).trans h1, (hk _ hb).trans h2, ?_⟩, InF.keep hk hb h4⟩
    rcases h3 with h3 | ⟨b', off', e, hb', h3⟩
    · exact .inl h3
    · exact .inr ⟨b', off', e, hb', InF.keep hk hb' h3⟩
theorem InF.more {w : World} {B B' : Nat} (hB : B ≤ B') : ∀ {f : Fo} {b off : Nat}, InF w B f b off → InF w B' f b off
  | .nil, _, _, _ => trivial
  | .cons o ks rest, b, off, ⟨⟨A, c, h1, h2, h3⟩, h4⟩ => by
    refine ⟨⟨A, c, h1, h2, ?_⟩, InF.more hB h4⟩
    rcases h3 with h3 | ⟨b', off', e, hb', h3⟩
    · exact .inl h3
    · exact .inr ⟨b', off', e, by omega, InF.more hB h3⟩
theorem Kd.below {w w' : World} {B : Nat} {ks : Fo} {A : Option Addr} (h : Kd w B ks A) (hb : Below B w w') : Kd w' B ks A := by
  rcases h with h | ⟨b, off, e, hl, h⟩
  · exact .inl h
  · exact .inr ⟨b, off, e, hl, h.keep (fun _ hp => hb.cell hp) hl⟩
theorem Kd.more {w : World} {B B' : Nat} {ks : Fo} {A : Option Addr} (h : Kd w B ks A) (hB : B ≤ B') : Kd w B' ks A := by
  rcases h with h | ⟨b, off, e, hl, h⟩
  · exact .inl h
  · exact .inr ⟨b, off, e, by omega, h.more hB⟩
theorem Kd.up {w w' : World} {ks : Fo} {A : Option Addr} (h : Kd w w.heap.size ks A) (hb : Below w.heap.size w w') : Kd w' w'.heap.size ks A := (h.below hb).more hb.size

end Go.Proofs.YtoaglkjpjolacaaDoor.I
namespace Go.Proofs.YtoaglkjpjolacaaDoor.I
open Go.RowKit
/-- An append whose run is known. -/
theorem wpList_append_run {P : Program} {w w' : World} {v' : Value} {ops : Array Oper} {rest : List Oper} {o : Oper} {a : Act} {Q : Exit → Act → World → Prop} (hgd : o.guard = none) (s x : Operand) (t u : TypeId)
    (ho : o.op = .call { callee := .builtin .append, args := #[s, x], argTypes := #[t, u] }) (vs vx : Value) (hs : a.eval s = vs) (hx : a.eval x = vx) (hrun : (Builtin.append_ #[t, u] o.type #[vs, vx]).run P w = .ok v' w')
    (h : wpList P ops Q rest (a.put o.dst v') w') : wpList P ops Q (o :: rest) a w :=
  wpList_plain hgd fun _ hK => by
    unfold Oper.wp execOp
    simp only [ho, resolve, invoke, builtin, Sem.run_bind, Sem.run_pure, Result.andThen_ok, List.map_toArray, List.map_cons, List.map_nil, hs, hx, hrun]
    exact hK _ _ h

/-- A right tree in memory. -/
def InT (w : World) (B : Nat) : Tr → Value → Prop
  | .leaf o, v => ∃ A c, v = tv o A 0 c
  | .node x y, v => ∃ b off c, v = tv false (some ⟨b, off, none⟩) 2 c ∧ b < B ∧
      (∃ o A n c, w.cell? ⟨b, off, none⟩ = some (.bool o) ∧ w.cell? ⟨b, off + 1, none⟩ = some (.slice A n c) ∧ InT w B x (tv o A n c)) ∧
      (∃ o A n c, w.cell? ⟨b, off + 2, none⟩ = some (.bool o) ∧ w.cell? ⟨b, off + 3, none⟩ = some (.slice A n c) ∧ InT w B y (tv o A n c))
theorem InT.keep {w w' : World} {B : Nat} (hk : ∀ p : Addr, p.block < B → w'.cell? p = w.cell? p) : ∀ {t : Tr} {v : Value}, InT w B t v → InT w' B t v
  | .leaf _, _, h => h
  | .node _ _, _, ⟨b, off, c, e, hb, ⟨o1, A1, n1, c1, h1, h2, h3⟩, ⟨o2, A2, n2, c2, g1, g2, g3⟩⟩ =>
    ⟨b, off, c, e, hb, ⟨o1, A1, n1, c1, (hk _ hb).trans h1, (hk _ hb).trans h2, h3.keep hk⟩, ⟨o2, A2, n2, c2, (hk _ hb).trans g1, (hk _ hb).trans g2, g3.keep hk⟩⟩
theorem InT.more {w : World} {B B' : Nat} (hB : B ≤ B') : ∀ {t : Tr} {v : Value}, InT w B t v → InT w B' t v
  | .leaf _, _, h => h
  | .node _ _, _, ⟨b, off, c, e, hb, ⟨o1, A1, n1, c1, h1, h2, h3⟩, ⟨o2, A2, n2, c2, g1, g2, g3⟩⟩ =>
    ⟨b, off, c, e, by omega, ⟨o1, A1, n1, c1, h1, h2, h3.more hB⟩, ⟨o2, A2, n2, c2, g1, g2, g3.more hB⟩⟩
theorem InT.below {w w' : World} {B : Nat} {t : Tr} {v : Value} (h : InT w B t v) (hb : Below B w w') : InT w' B t v := h.keep fun _ hp => hb.cell hp
theorem InT.up {w w' : World} {t : Tr} {v : Value} (h : InT w w.heap.size t v) (hb : Below w.heap.size w w') : InT w' w'.heap.size t v := (h.below hb).more hb.size
theorem InT.form {w : World} {B : Nat} {t : Tr} {v : Value} (h : InT w B t v) : ∃ o A n c, v = tv o A n c := by
  cases t with
  | leaf o => obtain ⟨A, c, e⟩ := h; exact ⟨_, _, _, _, e⟩
  | node x y => obtain ⟨b, off, c, e, _⟩ := h; exact ⟨_, _, _, _, e⟩
/-- Trees that came in and are right in shape, one behind the other. -/
def InTs (w : World) (B : Nat) : List Tr → Nat → Nat → Prop
  | [], _, _ => True
  | t :: ts, b, off => (∃ o A n c, w.cell? ⟨b, off, none⟩ = some (.bool o) ∧ w.cell? ⟨b, off + 1, none⟩ = some (.slice A n c) ∧ InT w B t (tv o A n c)) ∧ InTs w B ts b (off + 2)
theorem one_in {w : World} {B : Nat} {o : Bool} {ks : Fo} {A : Option Addr} {c : Nat} {k : List Tr} {t : Tr} (hk : trees ks = some k) (ht : one o k = some t) (h : Kd w B ks A) (ih : ∀ b off, InF w B ks b off → InTs w B k b off) : InT w B t (tv o A ks.len c) := by
  have hlen := trees_len ks k hk
  match k, hlen, ht with
  | [], hlen, ht =>
    simp only [one, Option.some.injEq] at ht
    subst ht
    rw [← hlen]
    exact ⟨A, c, rfl⟩
  | [x, y], hlen, ht =>
    cases o with
    | true => simp [one] at ht
    | false =>
      simp only [one, Bool.false_eq_true, if_false, Option.some.injEq] at ht
      subst ht
      rcases h with h | ⟨b, off, rfl, hb, h⟩
      · rw [← hlen] at h; cases h
      · obtain ⟨h1, h2, _⟩ := ih b off h
        rw [← hlen]
        exact ⟨b, off, c, rfl, hb, h1, h2⟩
  | [_], _, ht => simp [one] at ht
  | _ :: _ :: _ :: _, _, ht => simp [one] at ht
theorem in_trees {w : World} {B : Nat} : ∀ (f : Fo) (ts : List Tr) (b off : Nat), trees f = some ts → InF w B f b off → InTs w B ts b off
  | .nil, ts, b, off, h, _ => by simp [trees] at h; subst h; trivial
  | .cons o ks rest, ts, b, off, h, ⟨⟨A, c, h1, h2, h3⟩, h4⟩ => by
    simp only [trees] at h
    obtain ⟨k, hk, h⟩ := Option.bind_eq_some_iff.1 h
    obtain ⟨t, ht, h⟩ := Option.bind_eq_some_iff.1 h
    obtain ⟨r, hr, rfl⟩ := Option.map_eq_some_iff.1 h
    exact ⟨⟨o, A, ks.len, c, h1, h2, one_in hk ht h3 (fun b off hf => in_trees ks k b off hk hf)⟩, in_trees rest r b (off + 2) hr h4⟩
theorem in_treeOf {w : World} {B : Nat} {o : Bool} {ks : Fo} {A : Option Addr} {c : Nat} {t : Tr} (ht : treeOf o ks = some t) (h : Kd w B ks A) : InT w B t (tv o A ks.len c) ∧ t.depth ≤ 32 ∧ t.nodes ≤ 2047 := by
  unfold treeOf at ht
  obtain ⟨h1, h2⟩ := Option.filter_eq_some_iff.1 ht
  obtain ⟨k, hk, h1⟩ := Option.bind_eq_some_iff.1 h1
  simp only [Bool.and_eq_true, decide_eq_true_eq] at h2
  exact ⟨one_in hk h1 h (fun b off hf => in_trees ks k b off hk hf), h2.1, h2.2⟩

/-- Ranges as cells; a slice of ranges of the call's own, nil if it holds none. -/
def cellsR (l : List (Nat × Nat)) : List Value := l.flatMap fun r => [.int .u64 (r.1 : Int), .int .u64 (r.2 : Int)]
theorem cellsR_length (l : List (Nat × Nat)) : (cellsR l).length = l.length * 2 := by
  induction l with
  | nil => rfl
  | cons p t ih => simp [cellsR] at ih ⊢; omega
theorem cellsR_get : ∀ (l : List (Nat × Nat)) (j : Nat) (r : Nat × Nat), l[j]? = some r → (cellsR l)[j * 2]? = some (.int .u64 (r.1 : Int)) ∧ (cellsR l)[j * 2 + 1]? = some (.int .u64 (r.2 : Int))
  | [], j, p, h => by simp at h
  | q :: t, 0, p, h => by simp at h; subst h; simp [cellsR]
  | q :: t, j + 1, p, h => by
    have ih := cellsR_get t j p (by simpa using h)
    have e : cellsR (q :: t) = .int .u64 (q.1 : Int) :: .int .u64 (q.2 : Int) :: cellsR t := by simp [cellsR]
    rw [e, show (j + 1) * 2 = j * 2 + 1 + 1 by omega]
    simp only [List.getElem?_cons_succ]
    exact ih
/-- A slice of ranges that reads as l and lies below block B. -/
def RowR (w : World) (B : Nat) (A : Option Addr) (l : List (Nat × Nat)) : Prop :=
  0 < l.length → ∃ b off, A = some ⟨b, off, none⟩ ∧ b < B ∧ ∀ j r, l[j]? = some r → w.cell? ⟨b, off + j * 2, none⟩ = some (.int .u64 (r.1 : Int)) ∧ w.cell? ⟨b, off + j * 2 + 1, none⟩ = some (.int .u64 (r.2 : Int))
theorem RowR.keep {w w' : World} {B : Nat} {A : Option Addr} {l : List (Nat × Nat)} (h : RowR w B A l) (hk : ∀ p : Addr, p.block < B → w'.cell? p = w.cell? p) : RowR w' B A l :=
  fun hn => by obtain ⟨b, off, e, hb, hc⟩ := h hn; exact ⟨b, off, e, hb, fun j p hj => ⟨(hk _ hb).trans (hc j p hj).1, (hk _ hb).trans (hc j p hj).2⟩⟩
theorem RowR.below {w w' : World} {B : Nat} {A : Option Addr} {l : List (Nat × Nat)} (h : RowR w B A l) (hb : Below B w w') : RowR w' B A l := h.keep fun _ hp => hb.cell hp
theorem RowR.more {w : World} {B B' : Nat} {A : Option Addr} {l : List (Nat × Nat)} (h : RowR w B A l) (hB : B ≤ B') : RowR w B' A l := fun hn => by obtain ⟨b, off, e, hb, hc⟩ := h hn; exact ⟨b, off, e, by omega, hc⟩
theorem RowR.up {w w' : World} {A : Option Addr} {l : List (Nat × Nat)} (h : RowR w w.heap.size A l) (hb : Below w.heap.size w w') : RowR w' w'.heap.size A l := (h.below hb).more hb.size
def GrR (w : World) (base : Nat) (A : Option Addr) (c : Nat) (l : List (Nat × Nat)) : Prop := w.ownsRow base 123 2 (.slice A l.length c) l.length (cellsR l)
theorem GrR.nil (w : World) (base : Nat) : GrR w base none 0 [] := ⟨by simp [cellsR], .inl ⟨rfl, rfl⟩⟩
theorem GrR.cases {w : World} {base : Nat} {A : Option Addr} {c : Nat} {l : List (Nat × Nat)} (h : GrR w base A c l) : (A = none ∧ l = [] ∧ c = 0) ∨ ∃ g cur, A = some ⟨g, 0, none⟩ ∧ base ≤ g ∧ w.heap[g]? = some (.cells cur 123 (0, 0)) ∧ l.length ≤ c ∧ c ≤ maxLen ∧ cur.size = c * 2 ∧ cur.toList.take (l.length * 2) = cellsR l := by
  rcases h.2 with ⟨e, h0⟩ | ⟨g, cap, cur, e, hb, hc, h1, h2, h3, h4⟩
  · injection e with e1 e2 e3
    exact .inl ⟨e1, List.eq_nil_of_length_eq_zero e2, e3⟩
  · injection e with e1 e2 e3
    subst e1; subst e3
    exact .inr ⟨g, cur, rfl, hb, hc, h1, h2, h3, h4⟩
theorem GrR.row {w : World} {base c : Nat} {A : Option Addr} {l : List (Nat × Nat)} (h : GrR w base A c l) : RowR w w.heap.size A l := by
  rcases h.cases with ⟨rfl, rfl, rfl⟩ | ⟨g, cur, rfl, hb, hc, h1, h2, h3, h4⟩
  · intro hn; simp at hn
  · refine fun _ => ⟨g, 0, rfl, (Array.getElem?_eq_some_iff.1 hc).1, fun j p hp => ?_⟩
    have hj := (List.getElem?_eq_some_iff.1 hp).1
    have hcell : ∀ k, k < l.length * 2 → w.cell? ⟨g, k, none⟩ = (cellsR l)[k]? := fun k hk => by
      rw [cell_of_row w g k cur 123 (0, 0) hc, ← h4, List.getElem?_take, if_pos hk]; simp
    obtain ⟨g0, g1⟩ := cellsR_get l j p hp
    refine ⟨?_, ?_⟩
    · rw [Nat.zero_add, hcell _ (by omega), g0]
    · rw [Nat.zero_add, hcell _ (by omega), g1]
theorem GrR.own {w : World} {base c : Nat} {A : Option Addr} {l : List (Nat × Nat)} (h : GrR w base A c l) : ∀ k, (Value.slice A l.length c).ownBlock = some k → base ≤ k ∧ k < w.heap.size := by
  rcases h.cases with ⟨rfl, rfl, rfl⟩ | ⟨g, cur, rfl, hb, hc, _⟩
  · intro k e; simp [Value.ownBlock] at e
  · intro k e
    simp only [Value.ownBlock, Option.some.injEq] at e
    subst e
    exact ⟨hb, (Array.getElem?_eq_some_iff.1 hc).1⟩
theorem GrR.below {w w' : World} {base c B : Nat} {A : Option Addr} {l : List (Nat × Nat)} (h : GrR w base A c l) (hb : Below B w w') (hB : w.heap.size ≤ B) : GrR w' base A c l := by
  refine ⟨h.1, ?_⟩
  rcases h.2 with ⟨e, h0⟩ | ⟨g, cap, cur, e, hb', hc, h1⟩
  · exact .inl ⟨e, h0⟩
  · have := (Array.getElem?_eq_some_iff.1 hc).1
    exact .inr ⟨g, cap, cur, e, hb', (hb.block g (by omega)).trans hc, h1⟩
theorem info52 : (Tryd.prog.info? 123).map (fun i => (i.zero, i.size, i.bytes)) = some (some (.agg #[.int .u64 0, .int .u64 0]), 2, 16) := by kernel_rfl
theorem oneCell_cellsR (l : List (Nat × Nat)) : ∀ v ∈ cellsR l, v.oneCell' = true := by
  intro v hv
  obtain ⟨p, _, h⟩ := List.mem_flatMap.1 hv
  simp only [List.mem_cons, List.not_mem_nil, or_false] at h
  rcases h with rfl | rfl <;> rfl
/-- Whatever is not a row of ranges lies as it lay. -/
def Fr (w w' : World) : Prop := ∀ (k : Nat) (o : Obj), w.heap[k]? = some o → (∀ cs fr, o ≠ .cells cs 123 fr) → w'.heap[k]? = some o
theorem Fr.refl (w : World) : Fr w w := fun _ _ h _ => h
theorem Fr.trans {a b c : World} (h : Fr a b) (g : Fr b c) : Fr a c := fun k o hk ho => g k o (h k o hk ho) ho
theorem Fr.alloc (w : World) (x : Obj) : Fr w (w.alloc x) := fun k _ hk _ => (Below.heap_alloc w x k (Array.getElem?_eq_some_iff.1 hk).1).trans hk
theorem Fr.cell {w w' : World} (h : Fr w w') {k : Nat} {cs : Array Value} {t : TypeId} (hk : w.heap[k]? = some (.cells cs t (0, 0))) (ht : t ≠ 123) : w'.heap[k]? = some (.cells cs t (0, 0)) := h k _ hk (fun cs' fr e => by injection e with _ e2 _; exact ht e2)
theorem GrR.fr {w w' : World} {base c : Nat} {A : Option Addr} {l : List (Nat × Nat)} (h : GrR w base A c l) (hg : w.grownBy w' (Value.slice A l.length c).ownBlock) : Fr w w' := fun k o hk ho => by
  refine (hg.block k (Array.getElem?_eq_some_iff.1 hk).1 (fun e => ?_)).trans hk
  rcases h.cases with ⟨rfl, h2, rfl⟩ | ⟨g, cur, rfl, _, hc, _⟩
  · simp [Value.ownBlock] at e
  · obtain rfl : k = g := by simpa [Value.ownBlock] using e
    rw [hc] at hk
    injection hk with hk
    exact ho cur (0, 0) hk.symm
/-- append(out, r): one range, in a block of its own. -/
theorem GrR.one {w : World} {base c : Nat} {A : Option Addr} {l : List (Nat × Nat)} (h : GrR w base A c l) (r : Nat × Nat) (ty : TypeId) (hb : l.length ≤ 10000000) (hbase : base ≤ w.heap.size) :
    ∃ A' c' w', (Builtin.append_ #[104, 104] ty #[.slice A l.length c, .slice (some ⟨w.heap.size, 0, none⟩) 1 1]).run Tryd.prog (w.alloc (.cells #[.int .u64 (r.1 : Int), .int .u64 (r.2 : Int)] 123)) = .ok (.slice A' (l.length + 1) c') w' ∧ GrR w' base A' c' (l ++ [r]) ∧ Below base w w' ∧ Fr w w' := by
  obtain ⟨i0, hi, hz0, hz1, hz2⟩ := info_parts info52
  have hB0 : Below base w (w.alloc (.cells #[.int .u64 (r.1 : Int), .int .u64 (r.2 : Int)] 123)) := (Below.refl _ w).alloc hbase _
  have hBt : Below w.heap.size w (w.alloc (.cells #[.int .u64 (r.1 : Int), .int .u64 (r.2 : Int)] 123)) := (Below.refl _ w).alloc (Nat.le_refl _) _
  have hcell : ∀ j u, (cellsR [r])[j]? = some u → (w.alloc (.cells #[.int .u64 (r.1 : Int), .int .u64 (r.2 : Int)] 123)).cell? ((⟨w.heap.size, 0, none⟩ : Addr).add j) = some u := by
    intro j u hu
    have e : (⟨w.heap.size, 0, none⟩ : Addr).add j = ⟨w.heap.size, j, none⟩ := by
      unfold Addr.add; split
      · rename_i h; subst h; rfl
      · simp
    rw [e, cell_of_row _ _ j _ 123 (0, 0) (heap_alloc_new w _)]
    simpa [cellsR] using hu
  obtain ⟨v', w', hrun, ho, hg, hn⟩ := run_append_own_wide (P := Tryd.prog) (w.alloc (.cells #[.int .u64 (r.1 : Int), .int .u64 (r.2 : Int)] 123)) base 104 ty 123 i0 (.agg #[.int .u64 0, .int .u64 0]) 2 16 Tryd.underlying104 hi hz0 hz1 hz2 rfl (by decide) _ _ _ (h.below hBt (Nat.le_refl _)) _ 1 1 (cellsR [r]) (by simp [cellsR]) hcell (oneCell_cellsR [r]) (by unfold maxLen; omega) (by omega) (by simp; omega)
  have hB : Below base w w' := hB0.grown hg (by simp; omega) (fun k e => (h.own k e).1)
  have e2 : cellsR (l ++ [r]) = cellsR l ++ cellsR [r] := by simp [cellsR]
  have e3 : (l ++ [r]).length = l.length + 1 := by simp
  rcases ho.2 with ⟨e, h0⟩ | ⟨g', cap', cur, e, _⟩
  · omega
  · rw [e] at hrun ho
    exact ⟨_, _, w', hrun, by unfold GrR; rw [e2, e3]; exact ho, hB, (Fr.alloc w _).trans ((h.below hBt (Nat.le_refl _)).fr hg)⟩
/-- A call that hands back a tree. -/
def Trees (t : Tr) (w : World) (e : Ending) (w' : World) : Prop := ∃ v, e = .returned v ∧ InT w' w'.heap.size t v ∧ Below w.heap.size w w'
theorem two_in {w W : World} {x y : Tr} {o1 o2 : Bool} {A1 A2 : Option Addr} {n1 n2 c1 c2 g : Nat} (hb : Below w.heap.size w W) (hg : W.heap[g]? = some (.cells #[.bool o1, .slice A1 n1 c1, .bool o2, .slice A2 n2 c2] 24 (0, 0))) (hx : InT w w.heap.size x (tv o1 A1 n1 c1)) (hy : InT w w.heap.size y (tv o2 A2 n2 c2)) :
    InT W W.heap.size (.node x y) (tv false (some ⟨g, 0, none⟩) 2 2) := by
  refine ⟨g, 0, 2, rfl, (Array.getElem?_eq_some_iff.1 hg).1, ⟨o1, A1, n1, c1, ?_, ?_, hx.up hb⟩, ⟨o2, A2, n2, c2, ?_, ?_, hy.up hb⟩⟩
  · rw [cell_of_row W g 0 _ 24 (0, 0) hg]; rfl
  · rw [cell_of_row W g 1 _ 24 (0, 0) hg]; rfl
  · rw [cell_of_row W g 2 _ 24 (0, 0) hg]; rfl
  · rw [cell_of_row W g 3 _ 24 (0, 0) hg]; rfl
theorem three_boxes (w : World) (o1 o2 o3 : Obj) : Below w.heap.size w (((w.alloc o1).alloc o2).alloc o3) := (((Below.refl _ w).alloc (Nat.le_refl _) _).alloc (by simp) _).alloc (by simp; omega) _
theorem four_boxes (w : World) (o1 o2 o3 o4 : Obj) : Below w.heap.size w ((((w.alloc o1).alloc o2).alloc o3).alloc o4) := (three_boxes w o1 o2 o3).alloc (by simp; omega) _
end Go.Proofs.YtoaglkjpjolacaaDoor.I
namespace Go.Proofs.YtoaglkjpjolacaaDoor.I
open Go.RowKit
theorem RowR.at {w : World} {A : Option Addr} {l : List (Nat × Nat)} (h : RowR w w.heap.size A l) (j : Nat) (hj : j < l.length) : ∃ b off, A = some ⟨b, off, none⟩ ∧ b < w.heap.size ∧ Hid (∀ W, Below w.heap.size w W → W.cell? ⟨b, off + j * 2, none⟩ = some (.int .u64 ((l[j]'hj).1 : Int)) ∧ W.cell? ⟨b, off + j * 2 + 1, none⟩ = some (.int .u64 ((l[j]'hj).2 : Int))) := by
  obtain ⟨b, off, e, hb, hc⟩ := h (by omega)
  obtain ⟨h1, h2⟩ := hc j _ (List.getElem?_eq_getElem hj)
  exact ⟨b, off, e, hb, fun W hW => ⟨(hW.cell hb).trans h1, (hW.cell hb).trans h2⟩⟩

end Go.Proofs.YtoaglkjpjolacaaDoor.I
namespace Go.Proofs.YtoaglkjpjolacaaDoor.I
open Go.RowKit
/-- A variable of two cells that is no part of a tree may be written. -/
def Box2 (w : World) (g : Nat) : Prop := ∃ cs : Array Value, w.heap[g]? = some (.cells cs 24 (0, 0)) ∧ cs.size = 2
theorem Box2.off {w : World} {g : Nat} (h : Box2 w g) {i : Nat} (hi : 2 ≤ i) : w.cell? ⟨g, i, none⟩ = none := by
  obtain ⟨cs, h1, h2⟩ := h
  rw [cell_of_row w g i cs 24 (0, 0) h1]
  exact Array.getElem?_eq_none (by omega)
theorem Box2.set {w : World} {g i : Nat} (h : Box2 w g) (u : Value) : Box2 (w.setCell ⟨g, i, none⟩ u) g := by
  obtain ⟨cs, h1, h2⟩ := h
  exact ⟨cs.setIfInBounds i u, by simp [World.setCell, Array.getElem?_modify, h1], by simpa using h2⟩
theorem Box2.below {w w' : World} {g B : Nat} (h : Box2 w g) (hb : Below B w w') (hg : g < B) : Box2 w' g := by
  obtain ⟨cs, h1, h2⟩ := h
  exact ⟨cs, (hb.block g hg).trans h1, h2⟩
theorem InT.set2 {w : World} {B g i : Nat} {u : Value} (h2 : Box2 w g) : ∀ {t : Tr} {v : Value}, InT w B t v → InT (w.setCell ⟨g, i, none⟩ u) B t v
  | .leaf _, _, h => h
  | .node _ _, _, ⟨b, off, c, e, hb, ⟨o1, A1, n1, c1, k1, k2, k3⟩, ⟨o2, A2, n2, c2, g1, g2, g3⟩⟩ => by
    have hne : b ≠ g := by
      rintro rfl
      rw [h2.off (by omega)] at g1; cases g1
    have hk : ∀ j, (w.setCell ⟨g, i, none⟩ u).cell? ⟨b, j, none⟩ = w.cell? ⟨b, j, none⟩ := fun j => World.cell?_setCell_other _ _ _ _ (fun e => by injection e with e1 _ _; exact hne e1.symm)
    exact ⟨b, off, c, e, hb, ⟨o1, A1, n1, c1, (hk _).trans k1, (hk _).trans k2, InT.set2 h2 k3⟩, ⟨o2, A2, n2, c2, (hk _).trans g1, (hk _).trans g2, InT.set2 h2 g3⟩⟩
/-- What tree answers: written into its result's variable. -/
def Box0 (w : World) (g : Nat) : Prop := w.heap[g]? = some (.cells #[.bool false, .slice none 0 0] 24 (0, 0))
theorem box_start (w : World) : Box0 (w.alloc (.cells #[.bool false, .slice none 0 0] 24)) w.heap.size := heap_alloc_new w _
theorem Box0.below {w w' : World} {g B : Nat} (h : Box0 w g) (hb : Below B w w') (hg : g < B) : Box0 w' g := (hb.block g hg).trans h
theorem Box0.facts {w : World} {g : Nat} (h : Box0 w g) : (w.cell? ⟨g, 0, none⟩ = some (.bool false) ∧ w.cell? ⟨g, 1, none⟩ = some (.slice none 0 0)) ∧ w.frozen? ⟨g, 0, none⟩ = false ∧ w.frozen? ⟨g, 1, none⟩ = false := by
  refine ⟨⟨?_, ?_⟩, ?_, ?_⟩
  · rw [cell_of_row w g 0 _ 24 (0, 0) h]; rfl
  · rw [cell_of_row w g 1 _ 24 (0, 0) h]; rfl
  · simp [World.frozen?, show w.heap[g]? = _ from h]
  · simp [World.frozen?, show w.heap[g]? = _ from h]
theorem Box0.two {w : World} {g : Nat} (h : Box0 w g) : Box2 w g := ⟨_, h, rfl⟩
/-- A tree that was stored into a variable of two cells. -/
theorem store_in {w W : World} {B g : Nat} {t : Tr} {v u1 u2 : Value} (hg : Box0 W g) (h : InT W W.heap.size t v) (hb : Below B w W) (hB : B ≤ g) : InT ((W.setCell ⟨g, 0, none⟩ u1).setCell ⟨g, 1, none⟩ u2) ((W.setCell ⟨g, 0, none⟩ u1).setCell ⟨g, 1, none⟩ u2).heap.size t v ∧ Below B w ((W.setCell ⟨g, 0, none⟩ u1).setCell ⟨g, 1, none⟩ u2) := by
  refine ⟨?_, (hb.setCell (p := ⟨g, 0, none⟩) hB _).setCell (p := ⟨g, 1, none⟩) hB _⟩
  have h1 := InT.set2 (i := 1) (u := u2) (hg.two.set u1) (InT.set2 (i := 0) (u := u1) hg.two h)
  have e : ((W.setCell ⟨g, 0, none⟩ u1).setCell ⟨g, 1, none⟩ u2).heap.size = W.heap.size := by simp
  rw [e]; exact h1
end Go.Proofs.YtoaglkjpjolacaaDoor.I
namespace Go.Proofs.YtoaglkjpjolacaaDoor.I
open Go.RowKit
/-- What Norm answers. -/
def NormR (o : Bool) (ks : Fo) (w : World) (e : Ending) (w' : World) : Prop :=
  ((∃ t v, treeOf o ks = some t ∧ e = .returned (.tuple #[v, .int .i64 0]) ∧ InT w' w'.heap.size t.norm v) ∨ (treeOf o ks = none ∧ e = .returned (.tuple #[tv false none 0 0, .int .i64 2]))) ∧ Below w.heap.size w w'
end Go.Proofs.YtoaglkjpjolacaaDoor.I
namespace Go.Proofs.YtoaglkjpjolacaaDoor.I
open Go.RowKit
def eqT : Tr → Tr → Bool
  | .leaf o, .leaf p => o == p
  | .node a b, .node c d => eqT a c && eqT b d
  | _, _ => false
theorem eqT_iff : ∀ (x y : Tr), eqT x y = true ↔ x = y
  | .leaf o, .leaf p => by simp [eqT]
  | .node a b, .node c d => by simp [eqT, eqT_iff a c, eqT_iff b d]
  | .leaf _, .node _ _ => by simp [eqT]
  | .node _ _, .leaf _ => by simp [eqT]
end Go.Proofs.YtoaglkjpjolacaaDoor.I
namespace Go.Proofs.YtoaglkjpjolacaaDoor.I
open Go.RowKit
/-- What Norm answers, in one form. -/
theorem NormR.form {o : Bool} {ks : Fo} {w w' : World} {e : Ending} (h : NormR o ks w e w') : ∃ o5 A5 n5 c5 z, e = .returned (.tuple #[tv o5 A5 n5 c5, .int .i64 z]) ∧ ((z = 0 ∧ ∃ t, treeOf o ks = some t ∧ InT w' w'.heap.size t.norm (tv o5 A5 n5 c5)) ∨ (z = 2 ∧ treeOf o ks = none)) := by
  rcases h.1 with ⟨t, v, ht, rfl, hin⟩ | ⟨ht, rfl⟩
  · obtain ⟨o5, A5, n5, c5, rfl⟩ := hin.form
    exact ⟨o5, A5, n5, c5, 0, rfl, .inl ⟨rfl, t, ht, hin⟩⟩
  · exact ⟨false, none, 0, 0, 2, rfl, .inr ⟨rfl, ht⟩⟩
end Go.Proofs.YtoaglkjpjolacaaDoor.I
