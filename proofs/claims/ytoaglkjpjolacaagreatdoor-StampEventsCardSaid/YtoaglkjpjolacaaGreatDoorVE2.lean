/-
  Trees in memory, right or not; variables of two cells.
-/
import Derived.Test.YtoaglkjpjolacaaGreatDoorProg
import Derived.Test.YtoaglkjpjolacaaGreatDoorVE1
import Derived.WalkKit
import Derived.WalkSpells
import Derived.WalkLawsBesides
import Derived.LoopTactic
import Derived.Laws.ShiftsVar
import Derived.Laws.BitsAllLaws
import Derived.Lib.Hide
import Derived.Deep.LoopGhost
import Derived.IntWalk
import Derived.Deep.OwnRows
import Derived.Deep.DeepAppendWide
import Derived.Laws.CopyOwn
import Derived.Laws.OwnMore
import Derived.Deep.RegionWith
import Derived.Deep.RegionHeld
import Derived.Deep.QuietTactic
import Derived.StillTailTactics
import Derived.RangeFuncNested
import Derived.RangeFuncBound
import Derived.RangeFuncCalls
import Derived.RangeFuncLeaves
import Derived.Shelf.Abstract
import Derived.Shelf.RegionOpen
import Derived.OwnWalkIn
import Derived.TacticsInMore
import Derived.LoopNIn
import Derived.LoopIn
import Derived.BigQuiet
namespace Go.Proofs.YtoaglkjpjolacaaGreatDoor.E
open Go.RowKit
theorem ret_int {k : IntKind} {a b : Int} (h : a = b) : Ending.returned (.int k a) = .returned (.int k b) := by rw [h]
theorem ret_bool {a b : Bool} (h : a = b) : Ending.returned (.bool a) = .returned (.bool b) := by rw [h]
theorem wrap_id {x : Int} (h1 : -9223372036854775808 ≤ x) (h2 : x ≤ 9223372036854775807) : IntKind.i64.wrap x = x := by rw [IntKind.wrap_i64]; omega
theorem below_drewN {B : Nat} {a w : World} (h : Below B a w) (n : Nat) : Below B a (w.drewN n) := by
  induction n with
  | zero => exact h
  | succ n ih => exact ih.drew
theorem size_set (W : World) (p : Addr) (u : Value) : (W.setCell p u).heap.size = W.heap.size := by simp
theorem three_boxes (w : World) (o1 o2 o3 : Obj) : Below w.heap.size w (((w.alloc o1).alloc o2).alloc o3) := (((Below.refl _ w).alloc (Nat.le_refl _) _).alloc (by simp) _).alloc (by simp; omega) _
theorem four_boxes (w : World) (o1 o2 o3 o4 : Obj) : Below w.heap.size w ((((w.alloc o1).alloc o2).alloc o3).alloc o4) := (three_boxes w o1 o2 o3).alloc (by simp; omega) _
/-- A tree as a value. -/
def tv (n : Int) (A : Option Addr) (k c : Nat) : Value := .agg #[.int .i64 n, .slice A k c]
theorem tv_inj {n m : Int} {A B : Option Addr} {k l c d : Nat} (h : tv n A k c = tv m B l d) : n = m ∧ A = B ∧ k = l ∧ c = d := by
  unfold tv at h
  simp only [Value.agg.injEq, Array.mk.injEq, List.cons.injEq, Value.int.injEq, Value.slice.injEq, and_true, true_and] at h
  exact ⟨h.1, h.2.1, h.2.2.1, h.2.2.2⟩

/-- Trees one behind the other from a cell on, in blocks that have a property. -/
def InF (P : Nat → Prop) (w : World) : Fo → Nat → Nat → Prop
  | .nil, _, _ => True
  | .cons o ks rest, b, off => (∃ A c, w.cell? ⟨b, off, none⟩ = some (.int .i64 o) ∧ w.cell? ⟨b, off + 1, none⟩ = some (.slice A ks.len c) ∧ (ks.len = 0 ∨ ∃ b' off', A = some ⟨b', off', none⟩ ∧ P b' ∧ InF P w ks b' off')) ∧ InF P w rest b (off + 2)
/-- A slice of trees. -/
def Kd (P : Nat → Prop) (w : World) (ks : Fo) (A : Option Addr) : Prop := ks.len = 0 ∨ ∃ b off, A = some ⟨b, off, none⟩ ∧ P b ∧ InF P w ks b off
theorem InF.keep {P : Nat → Prop} {w w' : World} (hk : ∀ (p : Addr) (v : Value), P p.block → w.cell? p = some v → w'.cell? p = some v) : ∀ {f : Fo} {b off : Nat}, P b → InF P w f b off → InF P w' f b off
  | .nil, _, _, _, _ => trivial
  | .cons o ks rest, b, off, hb, ⟨⟨A, c, h1, h2, h3⟩, h4⟩ => by
    refine ⟨⟨A, c, hk _ _ hb h1, hk _ _ hb h2, ?_⟩, InF.keep hk hb h4⟩
    rcases h3 with h3 | ⟨b', off', e, hb', h3⟩
    · exact .inl h3
    · exact .inr ⟨b', off', e, hb', InF.keep hk hb' h3⟩
theorem InF.more {P Q : Nat → Prop} {w : World} (hB : ∀ b, P b → Q b) : ∀ {f : Fo} {b off : Nat}, InF P w f b off → InF Q w f b off
  | .nil, _, _, _ => trivial
  | .cons o ks rest, b, off, ⟨⟨A, c, h1, h2, h3⟩, h4⟩ => by
    refine ⟨⟨A, c, h1, h2, ?_⟩, InF.more hB h4⟩
    rcases h3 with h3 | ⟨b', off', e, hb', h3⟩
    · exact .inl h3
    · exact .inr ⟨b', off', e, hB _ hb', InF.more hB h3⟩
theorem Kd.keep {P : Nat → Prop} {w w' : World} (hk : ∀ (p : Addr) (v : Value), P p.block → w.cell? p = some v → w'.cell? p = some v) {f : Fo} {A : Option Addr} (h : Kd P w f A) : Kd P w' f A := by
  rcases h with h | ⟨b, off, e, hb, h⟩
  · exact .inl h
  · exact .inr ⟨b, off, e, hb, h.keep hk hb⟩
theorem Kd.more {P Q : Nat → Prop} {w : World} {ks : Fo} {A : Option Addr} (h : Kd P w ks A) (hB : ∀ b, P b → Q b) : Kd Q w ks A := by
  rcases h with h | ⟨b, off, e, hl, h⟩
  · exact .inl h
  · exact .inr ⟨b, off, e, hB _ hl, h.more hB⟩
/-- Below a block. -/
def Lt (B : Nat) : Nat → Prop := fun b => b < B
theorem Kd.below {w w' : World} {B : Nat} {ks : Fo} {A : Option Addr} (h : Kd (Lt B) w ks A) (hb : Below B w w') : Kd (Lt B) w' ks A := h.keep fun _ _ hp hc => (hb.cell hp).trans hc
theorem Kd.up {w w' : World} {ks : Fo} {A : Option Addr} (h : Kd (Lt w.heap.size) w ks A) (hb : Below w.heap.size w w') : Kd (Lt w'.heap.size) w' ks A := (h.below hb).more fun _ h => Nat.lt_of_lt_of_le h hb.size

/-- A right tree in memory, in blocks that have a property. -/
def InP (P : Nat → Prop) (w : World) : Tr → Value → Prop
  | .leaf n, v => ∃ A c, v = tv n A 0 c
  | .node n x y, v => ∃ b off c, v = tv n (some ⟨b, off, none⟩) 2 c ∧ P b ∧
      (∃ n A k c, w.cell? ⟨b, off, none⟩ = some (.int .i64 n) ∧ w.cell? ⟨b, off + 1, none⟩ = some (.slice A k c) ∧ InP P w x (tv n A k c)) ∧
      (∃ n A k c, w.cell? ⟨b, off + 2, none⟩ = some (.int .i64 n) ∧ w.cell? ⟨b, off + 3, none⟩ = some (.slice A k c) ∧ InP P w y (tv n A k c))
theorem InP.keep {P : Nat → Prop} {w w' : World} (hk : ∀ (p : Addr) (v : Value), P p.block → w.cell? p = some v → w'.cell? p = some v) : ∀ {t : Tr} {v : Value}, InP P w t v → InP P w' t v
  | .leaf _, _, h => h
  | .node _ _ _, _, ⟨b, off, c, e, hb, ⟨o1, A1, n1, c1, h1, h2, h3⟩, ⟨o2, A2, n2, c2, g1, g2, g3⟩⟩ =>
    ⟨b, off, c, e, hb, ⟨o1, A1, n1, c1, hk _ _ hb h1, hk _ _ hb h2, h3.keep hk⟩, ⟨o2, A2, n2, c2, hk _ _ hb g1, hk _ _ hb g2, g3.keep hk⟩⟩
theorem InP.more {P Q : Nat → Prop} {w : World} (hB : ∀ b, P b → Q b) : ∀ {t : Tr} {v : Value}, InP P w t v → InP Q w t v
  | .leaf _, _, h => h
  | .node _ _ _, _, ⟨b, off, c, e, hb, ⟨o1, A1, n1, c1, h1, h2, h3⟩, ⟨o2, A2, n2, c2, g1, g2, g3⟩⟩ =>
    ⟨b, off, c, e, hB b hb, ⟨o1, A1, n1, c1, h1, h2, h3.more hB⟩, ⟨o2, A2, n2, c2, g1, g2, g3.more hB⟩⟩
abbrev InT (w : World) (B : Nat) (t : Tr) (v : Value) : Prop := InP (Lt B) w t v
theorem InP.below {w w' : World} {B : Nat} {t : Tr} {v : Value} (h : InP (Lt B) w t v) (hb : Below B w w') : InP (Lt B) w' t v := h.keep fun _ _ hp hc => (hb.cell hp).trans hc
theorem InP.up {w w' : World} {t : Tr} {v : Value} (h : InP (Lt w.heap.size) w t v) (hb : Below w.heap.size w w') : InP (Lt w'.heap.size) w' t v := (h.below hb).more fun _ h => Nat.lt_of_lt_of_le h hb.size
/-- Blocks that a call has made. -/
def New (w w' : World) : Nat → Prop := fun b => w.heap.size ≤ b ∧ b < w'.heap.size
theorem InP.old {w w' : World} {t : Tr} {v : Value} (h : InP (New w w') w' t v) : InT w' w'.heap.size t v := h.more fun _ h => h.2
/-- Whatever lay in old blocks stays. -/
theorem InP.stay {P : Nat → Prop} {w w' : World} {t : Tr} {v : Value} (h : InP P w t v) (hb : Below w.heap.size w w') : InP P w' t v := h.keep fun p _ _ hc => (hb.cell (World.block_lt_of_cell? w p hc)).trans hc
theorem InP.form {P : Nat → Prop} {w : World} {t : Tr} {v : Value} (h : InP P w t v) : ∃ A k c, v = tv t.N A k c := by
  cases t with
  | leaf o => obtain ⟨A, c, e⟩ := h; exact ⟨_, _, _, e⟩
  | node o x y => obtain ⟨b, off, c, e, _⟩ := h; exact ⟨_, _, _, e⟩
/-- A tree's root may be another number. -/
theorem InP.root {P : Nat → Prop} {w : World} {t : Tr} {n : Int} {A : Option Addr} {k c : Nat} (h : InP P w t (tv n A k c)) (d : Int) : InP P w (t.add d) (tv (n + d) A k c) := by
  cases t with
  | leaf o =>
    obtain ⟨A', c', e⟩ := h
    obtain ⟨rfl, rfl, rfl, rfl⟩ := tv_inj e
    exact ⟨A, c, rfl⟩
  | node o x y =>
    obtain ⟨b, off, c', e, h⟩ := h
    obtain ⟨rfl, rfl, rfl, rfl⟩ := tv_inj e
    exact ⟨b, off, c, rfl, h⟩
theorem InP.leafy {P : Nat → Prop} {w : World} {x : Tr} {n : Int} {A : Option Addr} {k c : Nat} (h : InP P w x (tv n A k c)) : (k = 0 ∧ x = .leaf n) ∨ (k = 2 ∧ ∃ l r, x = .node n l r) := by
  cases x with
  | leaf o =>
    obtain ⟨A', c', e⟩ := h
    obtain ⟨rfl, rfl, rfl, rfl⟩ := tv_inj e
    exact .inl ⟨rfl, rfl⟩
  | node o l r =>
    obtain ⟨b, off, c', e, _⟩ := h
    obtain ⟨rfl, rfl, rfl, rfl⟩ := tv_inj e
    exact .inr ⟨rfl, l, r, rfl⟩
/-- Trees that came in and are right in shape, one behind the other. -/
def InTs (P : Nat → Prop) (w : World) : List Tr → Nat → Nat → Prop
  | [], _, _ => True
  | t :: ts, b, off => (∃ o A n c, w.cell? ⟨b, off, none⟩ = some (.int .i64 o) ∧ w.cell? ⟨b, off + 1, none⟩ = some (.slice A n c) ∧ InP P w t (tv o A n c)) ∧ InTs P w ts b (off + 2)
theorem one_in {P : Nat → Prop} {w : World} {o : Int} {ks : Fo} {A : Option Addr} {c : Nat} {k : List Tr} {t : Tr} (hk : trees ks = some k) (ht : one o k = some t) (h : Kd P w ks A) (ih : ∀ b off, InF P w ks b off → InTs P w k b off) : InP P w t (tv o A ks.len c) := by
  have hlen := trees_len ks k hk
  match k, hlen, ht with
  | [], hlen, ht =>
    simp only [one, Option.some.injEq] at ht
    subst ht
    rw [← hlen]
    exact ⟨A, c, rfl⟩
  | [x, y], hlen, ht =>
    simp only [one, Option.some.injEq] at ht
    subst ht
    rcases h with h | ⟨b, off, rfl, hb, h⟩
    · rw [← hlen] at h; cases h
    · obtain ⟨h1, h2, _⟩ := ih b off h
      rw [← hlen]
      exact ⟨b, off, c, rfl, hb, h1, h2⟩
  | [_], _, ht => simp [one] at ht
  | _ :: _ :: _ :: _, _, ht => simp [one] at ht
theorem in_trees {P : Nat → Prop} {w : World} : ∀ (f : Fo) (ts : List Tr) (b off : Nat), trees f = some ts → InF P w f b off → InTs P w ts b off
  | .nil, ts, b, off, h, _ => by simp [trees] at h; subst h; trivial
  | .cons o ks rest, ts, b, off, h, ⟨⟨A, c, h1, h2, h3⟩, h4⟩ => by
    simp only [trees] at h
    obtain ⟨k, hk, h⟩ := Option.bind_eq_some_iff.1 h
    obtain ⟨t, ht, h⟩ := Option.bind_eq_some_iff.1 h
    obtain ⟨r, hr, rfl⟩ := Option.map_eq_some_iff.1 h
    exact ⟨⟨o, A, ks.len, c, h1, h2, one_in hk ht h3 (fun b off hf => in_trees ks k b off hk hf)⟩, in_trees rest r b (off + 2) hr h4⟩
theorem in_treeOf {P : Nat → Prop} {w : World} {o : Int} {ks : Fo} {A : Option Addr} {c : Nat} {t : Tr} (ht : treeOf o ks = some t) (h : Kd P w ks A) : InP P w t (tv o A ks.len c) ∧ okT t = true := by
  unfold treeOf at ht
  obtain ⟨h1, h2⟩ := Option.filter_eq_some_iff.1 ht
  obtain ⟨k, hk, h1⟩ := Option.bind_eq_some_iff.1 h1
  exact ⟨one_in hk h1 h (fun b off hf => in_trees ks k b off hk hf), h2⟩
/-- A right tree in memory as trees that came in are. -/
theorem unT {P : Nat → Prop} {w : World} : ∀ {t : Tr} {v : Value}, InP P w t v → ∃ (ks : Fo) (A : Option Addr) (c : Nat), v = tv t.N A ks.len c ∧ Kd P w ks A ∧ (trees ks).bind (one t.N) = some t
  | .leaf o, _, ⟨A, c, rfl⟩ => ⟨.nil, A, c, rfl, .inl rfl, rfl⟩
  | .node o x y, _, ⟨b, off, c, rfl, hb, ⟨o1, A1, n1, c1, h1, h2, h3⟩, ⟨o2, A2, n2, c2, g1, g2, g3⟩⟩ => by
    obtain ⟨k1, B1, d1, e1, kd1, t1⟩ := unT h3
    obtain ⟨k2, B2, d2, e2, kd2, t2⟩ := unT g3
    obtain ⟨rfl, rfl, rfl, rfl⟩ := tv_inj e1
    obtain ⟨rfl, rfl, rfl, rfl⟩ := tv_inj e2
    refine ⟨.cons x.N k1 (.cons y.N k2 .nil), _, c, rfl, .inr ⟨b, off, rfl, hb, ⟨A1, c1, h1, h2, kd1⟩, ⟨A2, c2, g1, g2, kd2⟩, trivial⟩, ?_⟩
    obtain ⟨l1, hl1, ht1⟩ := Option.bind_eq_some_iff.1 t1
    obtain ⟨l2, hl2, ht2⟩ := Option.bind_eq_some_iff.1 t2
    have e2 : trees (.cons y.N k2 .nil) = some [y] := by simp only [trees, hl2, Option.bind_some, ht2, Option.map_some]
    have e1 : trees (.cons x.N k1 (.cons y.N k2 .nil)) = some [x, y] := by
      have e : trees (.cons x.N k1 (.cons y.N k2 .nil)) = (trees k1).bind fun k => (one x.N k).bind fun t => (trees (.cons y.N k2 .nil)).map (t :: ·) := rfl
      rw [e, e2, hl1, Option.bind_some, ht1, Option.bind_some, Option.map_some]
    rw [e1]
    rfl
/-- A variable of two cells that is no part of a tree may be written. -/
def Box2 (w : World) (g : Nat) : Prop := ∃ (cs : Array Value) (t : TypeId), w.heap[g]? = some (.cells cs t (0, 0)) ∧ cs.size = 2
theorem Box2.off {w : World} {g : Nat} (h : Box2 w g) {i : Nat} (hi : 2 ≤ i) : w.cell? ⟨g, i, none⟩ = none := by
  obtain ⟨cs, t, h1, h2⟩ := h
  rw [cell_of_row w g i cs t (0, 0) h1]
  exact Array.getElem?_eq_none (by omega)
theorem Box2.set {w : World} {g i : Nat} (h : Box2 w g) (u : Value) : Box2 (w.setCell ⟨g, i, none⟩ u) g := by
  obtain ⟨cs, t, h1, h2⟩ := h
  exact ⟨cs.setIfInBounds i u, t, by simp [World.setCell, Array.getElem?_modify, h1], by simpa using h2⟩
theorem Box2.below {w w' : World} {g B : Nat} (h : Box2 w g) (hb : Below B w w') (hg : g < B) : Box2 w' g := by
  obtain ⟨cs, t, h1, h2⟩ := h
  exact ⟨cs, t, (hb.block g hg).trans h1, h2⟩
theorem Box2.facts {w : World} {g : Nat} (h : Box2 w g) : ∃ u0 u1, (w.cell? ⟨g, 0, none⟩ = some u0 ∧ w.cell? ⟨g, 1, none⟩ = some u1) ∧ w.frozen? ⟨g, 0, none⟩ = false ∧ w.frozen? ⟨g, 1, none⟩ = false := by
  obtain ⟨cs, t, h1, h2⟩ := h
  refine ⟨cs[0]'(by omega), cs[1]'(by omega), ⟨?_, ?_⟩, ?_, ?_⟩
  · rw [cell_of_row w g 0 _ t (0, 0) h1]; exact Array.getElem?_eq_getElem _
  · rw [cell_of_row w g 1 _ t (0, 0) h1]; exact Array.getElem?_eq_getElem _
  · simp [World.frozen?, h1]
  · simp [World.frozen?, h1]
theorem Box2.far {w : World} {g g' i : Nat} (h : Box2 w g) (hne : g ≠ g') (u : Value) : Box2 (w.setCell ⟨g', i, none⟩ u) g := by
  obtain ⟨cs, t, h1, h2⟩ := h
  exact ⟨cs, t, (Below.heap_setCell w ⟨g', i, none⟩ u g hne).trans h1, h2⟩
theorem Box2.new (w : World) (u v : Value) (t : TypeId) : Box2 (w.alloc (.cells #[u, v] t)) w.heap.size := ⟨_, t, heap_alloc_new w _, rfl⟩
theorem InP.set2 {P : Nat → Prop} {w : World} {g i : Nat} {u : Value} (h2 : Box2 w g) : ∀ {t : Tr} {v : Value}, InP P w t v → InP P (w.setCell ⟨g, i, none⟩ u) t v
  | .leaf _, _, h => h
  | .node _ _ _, _, ⟨b, off, c, e, hb, ⟨o1, A1, n1, c1, k1, k2, k3⟩, ⟨o2, A2, n2, c2, g1, g2, g3⟩⟩ => by
    have hne : b ≠ g := by
      rintro rfl
      rw [h2.off (by omega)] at g1; cases g1
    have hk : ∀ j, (w.setCell ⟨g, i, none⟩ u).cell? ⟨b, j, none⟩ = w.cell? ⟨b, j, none⟩ := fun j => World.cell?_setCell_other _ _ _ _ (fun e => by injection e with e1 _ _; exact hne e1.symm)
    exact ⟨b, off, c, e, hb, ⟨o1, A1, n1, c1, (hk _).trans k1, (hk _).trans k2, InP.set2 h2 k3⟩, ⟨o2, A2, n2, c2, (hk _).trans g1, (hk _).trans g2, InP.set2 h2 g3⟩⟩
/-- Cells that hold what they hold; variables of two cells of the call's own. -/
structure XS (w : World) (bs : List (Nat × Nat × Value)) (rs : List Nat) (W : World) : Prop where
  at0 : ∀ b ∈ bs, W.cell? ⟨b.1, b.2.1, none⟩ = some b.2.2
  box : ∀ r ∈ rs, Box2 W r ∧ w.heap.size ≤ r
  bel : Below w.heap.size w W
theorem XS.get {w W : World} {bs : List (Nat × Nat × Value)} {rs : List Nat} (h : XS w bs rs W) {g i : Nat} {v : Value} (hm : (g, i, v) ∈ bs) : W.cell? ⟨g, i, none⟩ = some v := h.at0 _ hm
theorem XS.next {w W W' : World} {bs : List (Nat × Nat × Value)} {rs : List Nat} (h : XS w bs rs W) (hb : Below W.heap.size W W') : XS w bs rs W' :=
  ⟨fun b hm => (hb.cell (World.block_lt_of_cell? W _ (h.at0 b hm))).trans (h.at0 b hm),
   fun r hm => ⟨(h.box r hm).1.below hb (World.block_lt_of_cell? W _ (h.box r hm).1.facts.choose_spec.choose_spec.1.1), (h.box r hm).2⟩, h.bel.trans (hb.mono h.bel.size)⟩
theorem XS.drew {w W : World} {bs : List (Nat × Nat × Value)} {rs : List Nat} (h : XS w bs rs W) : XS w bs rs W.drew := h.next ((Below.refl W.heap.size W).drew)
theorem XS.begin (w : World) : XS w [] [] w := ⟨by simp, by simp, Below.refl _ _⟩
theorem XS.alloc {w W : World} {bs : List (Nat × Nat × Value)} {rs : List Nat} (h : XS w bs rs W) (o : Obj) : XS w bs rs (W.alloc o) := h.next ((Below.refl W.heap.size W).alloc (Nat.le_refl _) _)
/-- One more variable, with its values. -/
theorem XS.boxed {w W : World} {bs : List (Nat × Nat × Value)} {rs : List Nat} (h : XS w bs rs W) (u v : Value) (t : TypeId) : XS w (bs ++ [(W.heap.size, 0, u), (W.heap.size, 1, v)]) (rs ++ [W.heap.size]) (W.alloc (.cells #[u, v] t)) := by
  have h1 := h.alloc (.cells #[u, v] t)
  refine ⟨fun b hm => ?_, fun r hm => ?_, h1.bel⟩
  · rcases List.mem_append.1 hm with hm | hm
    · exact h1.at0 b hm
    · simp only [List.mem_cons, List.not_mem_nil, or_false] at hm
      rcases hm with rfl | rfl <;> simp [go_sem]
  · rcases List.mem_append.1 hm with hm | hm
    · exact h1.box r hm
    · simp only [List.mem_singleton] at hm
      subst hm
      exact ⟨Box2.new W u v t, h.bel.size⟩
/-- A write into a variable of which nothing is said. -/
theorem XS.store {w W : World} {bs : List (Nat × Nat × Value)} {rs : List Nat} (h : XS w bs rs W) (g i : Nat) (u : Value) (hg : g ∈ rs) (hd : ∀ b ∈ bs, b.1 ≠ g ∨ b.2.1 ≠ i) : XS w bs rs (W.setCell ⟨g, i, none⟩ u) := by
  refine ⟨fun b hm => (World.cell?_setCell_other _ _ _ _ (fun e => by injection e with e e'; rcases hd b hm with h | h; exact h e.symm; exact h e'.symm)).trans (h.at0 b hm), fun r hm => ⟨?_, (h.box r hm).2⟩, h.bel.setCell (p := ⟨g, i, none⟩) (h.box g hg).2 _⟩
  by_cases e : r = g
  · subst e; exact (h.box r hm).1.set u
  · exact (h.box r hm).1.far e u
theorem XS.sub {w W : World} {bs bs' : List (Nat × Nat × Value)} {rs rs' : List Nat} (h : XS w bs rs W) (h1 : ∀ b ∈ bs', b ∈ bs) (h2 : ∀ r ∈ rs', r ∈ rs) : XS w bs' rs' W := ⟨fun b hm => h.at0 b (h1 b hm), fun r hm => h.box r (h2 r hm), h.bel⟩
theorem XS.facts {w W : World} {bs : List (Nat × Nat × Value)} {rs : List Nat} (h : XS w bs rs W) (g : Nat) (hg : g ∈ rs) : ∃ u0 u1, (W.cell? ⟨g, 0, none⟩ = some u0 ∧ W.cell? ⟨g, 1, none⟩ = some u1) ∧ W.frozen? ⟨g, 0, none⟩ = false ∧ W.frozen? ⟨g, 1, none⟩ = false := (h.box g hg).1.facts
/-- A tree that was stored into a variable of two cells. -/
theorem XS.fin {w W : World} {bs : List (Nat × Nat × Value)} {rs : List Nat} (h : XS w bs rs W) (g : Nat) (hg : g ∈ rs) {P : Nat → Prop} {t : Tr} {x : Value} (ht : InP P W t x) (u1 u2 : Value) :
    InP P ((W.setCell ⟨g, 0, none⟩ u1).setCell ⟨g, 1, none⟩ u2) t x ∧ Below w.heap.size w ((W.setCell ⟨g, 0, none⟩ u1).setCell ⟨g, 1, none⟩ u2) :=
  ⟨InP.set2 ((h.box g hg).1.set u1) (InP.set2 (h.box g hg).1 ht), (h.bel.setCell (p := ⟨g, 0, none⟩) (h.box g hg).2 _).setCell (p := ⟨g, 1, none⟩) (h.box g hg).2 _⟩

/-- A call that hands back a tree in new blocks. -/
def Trees (t : Tr) (w : World) (e : Ending) (w' : World) : Prop := ∃ v, e = .returned v ∧ InP (New w w') w' t v ∧ Below w.heap.size w w'
/-- A tree and an error's number. -/
def Ans (r : Tr × Int) (w : World) (e : Ending) (w' : World) : Prop := ∃ v, e = .returned (.tuple #[v, .int .i64 r.2]) ∧ InP (New w w') w' r.1 v ∧ Below w.heap.size w w'
/-- A tree that is handed in, anywhere in memory: the right tree T, or none. -/
def Arg (w : World) (T : Option Tr) (v : Value) : Prop := ∃ o ks A c, v = tv o A ks.len c ∧ Kd (Lt w.heap.size) w ks A ∧ treeOf o ks = T
theorem Arg.up {w w' : World} {T : Option Tr} {v : Value} (h : Arg w T v) (hb : Below w.heap.size w w') : Arg w' T v := by
  obtain ⟨o, ks, A, c, e, hk, ht⟩ := h
  exact ⟨o, ks, A, c, e, hk.up hb, ht⟩
theorem Arg.form {w : World} {T : Option Tr} {v : Value} (h : Arg w T v) : ∃ o A n c, v = tv o A n c := by
  obtain ⟨o, ks, A, c, e, hk, ht⟩ := h
  exact ⟨o, A, ks.len, c, e⟩
theorem Arg.inT {w : World} {t : Tr} {v : Value} (h : Arg w (some t) v) : InT w w.heap.size t v ∧ okT t = true := by
  obtain ⟨o, ks, A, c, rfl, hk, ht⟩ := h
  exact in_treeOf ht hk
theorem arg_of {w : World} {t : Tr} {v : Value} (h : InT w w.heap.size t v) : Arg w (fit t) v := by
  obtain ⟨ks, A, c, rfl, hk, ht⟩ := unT h
  refine ⟨_, ks, A, c, rfl, hk, ?_⟩
  unfold treeOf E.fit
  rw [ht]
  simp [Option.filter]
end Go.Proofs.YtoaglkjpjolacaaGreatDoor.E
namespace Go.Proofs.YtoaglkjpjolacaaGreatDoor.E
open Go.RowKit
/-- Every block but those of X lies as it lay. -/
structure Kept (X : Nat → Prop) (W W' : World) : Prop where
  size : W.heap.size ≤ W'.heap.size
  same : ∀ k, k < W.heap.size → ¬ X k → W'.heap[k]? = W.heap[k]?
theorem Kept.refl (X : Nat → Prop) (W : World) : Kept X W W := ⟨Nat.le_refl _, fun _ _ _ => rfl⟩
theorem Kept.trans {X : Nat → Prop} {A B C : World} (h : Kept X A B) (g : Kept X B C) : Kept X A C :=
  ⟨Nat.le_trans h.size g.size, fun k hk hx => (g.same k (Nat.lt_of_lt_of_le hk h.size) hx).trans (h.same k hk hx)⟩
theorem Kept.mono {X Y : Nat → Prop} {A B : World} (h : Kept X A B) (hxy : ∀ k, X k → Y k) : Kept Y A B := ⟨h.size, fun k hk hy => h.same k hk fun hx => hy (hxy k hx)⟩
theorem Kept.alloc {X : Nat → Prop} {A B : World} (h : Kept X A B) (o : Obj) : Kept X A (B.alloc o) :=
  h.trans ⟨by simp, fun k hk _ => Below.heap_alloc B o k hk⟩
theorem Kept.putObj {X : Nat → Prop} {W : World} {l : Nat} (hl : X l) (o : Obj) : Kept X W (W.putObj l o) :=
  ⟨by simp [World.putObj], fun _ _ hx => World.putObj_heap_other (fun e => hx (e ▸ hl))⟩
theorem Kept.setCell {X : Nat → Prop} {A B : World} (h : Kept X A B) {p : Addr} (hp : X p.block) (u : Value) : Kept X A (B.setCell p u) :=
  h.trans ⟨by simp, fun k _ hx => Below.heap_setCell B p u k (fun e => hx (e ▸ hp))⟩
theorem Kept.below {X : Nat → Prop} {B : Nat} {W W' : World} (hb : Below B W W') (hB : W.heap.size ≤ B) : Kept X W W' := ⟨hb.size, fun k hk _ => hb.block k (Nat.lt_of_lt_of_le hk hB)⟩
theorem Kept.cell {X : Nat → Prop} {W W' : World} (h : Kept X W W') {p : Addr} {v : Value} (hx : ¬ X p.block) (hc : W.cell? p = some v) : W'.cell? p = some v := by
  obtain ⟨o, ho, _⟩ := cells_of_cell hc
  exact (World.cell?_of_block (h.same _ (Array.getElem?_eq_some_iff.1 ho).1 hx)).trans hc

/-- How a round may be left. -/
def rPost {α : Type} (X : Nat → Prop) (G : α → Prop) (I : List α → World → Prop) (Ix : Code → List α → World → Prop) (pre : List α) (x : α) (W : World) : Exit → Act → World → Prop
  | .normal, _, W' => Kept X W W' ∧ G x ∧ I (pre ++ [x]) W'
  | .ret, _, W' => Kept X W W' ∧ Ix .ret (pre ++ [x]) W'
  | .exit id, _, W' => Kept X W W' ∧ Ix (.exit id) (pre ++ [x]) W'
  | .goto t, _, W' => Kept X W W' ∧ Ix (.goto t) (pre ++ [x]) W'
  | .panic _, _, _ => False
  | .outgrown, _, _ => False

theorem roundIn_deep {m m' : Nat} {P : Program} {l : Nat} {f : FuncId} {tmps : Array Value} {assign body : Code} {w : World} {R : Ending → World → Prop}
    (h : RoundIn Fence.wide m P l f tmps assign body w R) : RoundIn Fence.wide m' P l f tmps assign body w R := ⟨h.1, fun c cs _ => h.2 c cs (room_wide _)⟩

/-- An iterator over S, whatever the rounds do to the blocks of X (and to their loop's own record); Q: what is known of each x; G: what a round that goes on has found. -/
def SeqQ {α : Type} (P : Program) (g : Nat) (lb : Array Value) (encs : α → Array Value) (X : Nat → Prop) (Q : List α → α → Prop) (G : α → Prop) (S Sp : List α → Prop) (w : World) : Prop :=
  ∀ (l : Nat) (J Jx : List α → World → Prop) (W : World), Below w.heap.size w W → w.heap.size ≤ l → l < W.heap.size → OwnFrom W.heap.size J → OwnFrom W.heap.size Jx →
    (∀ pre x W1, J pre W1 → Q pre x → YieldAt Fence.wide 0 P l (encs x) W1 fun e W' =>
      (e = .returned (.bool true) ∧ G x ∧ J (pre ++ [x]) W' ∧ Kept (fun k => X k ∨ k = l) W1 W') ∨ (e = .returned (.bool false) ∧ Jx (pre ++ [x]) W' ∧ Kept (fun k => X k ∨ k = l) W1 W')) →
    J [] W →
    Calls P g (#[.func (.yield l) #[] #[]] ++ lb) W fun e W' => (∃ v, e = .returned v) ∧ ((∃ xs, S xs ∧ J xs W') ∨ (∃ pre, Sp pre ∧ Jx pre W'))

theorem range_own {α : Type} {P : Program} {n : Nat} {g : Operand} {ps : Array Tmp} {assign body : Code} {Z : Exit → Act → World → Prop} {a : Act} {w : World}
    {gf : Nat} {lb : Array Value} (hg : a.eval g = .func (.func gf) #[] lb) (eg : ∀ args w, (callFunc gf args).run P w = .ok (.enter gf args) w)
    {encs : α → Array Value} {X : Nat → Prop} {Q : List α → α → Prop} {G : α → Prop} {S Sp : List α → Prop} {w0 : World} (hseq : SeqQ P gf lb encs X Q G S Sp w0) (hX : ∀ k, X k → k < w.heap.size)
    (hb0 : Below w0.heap.size w0 w) (hps : ∀ x, (encs x).size = ps.size)
    (I : List α → World → Prop) (Ix : Code → List α → World → Prop) (hI : OwnFrom w.heap.size I) (hIx : ∀ c, OwnFrom w.heap.size (Ix c)) (h0 : I [] w) (Ax : α → Act → World → Prop) (hAx : ∀ x a', OwnFrom w.heap.size (fun (_ : Unit) W => Ax x a' W))
    (hassign : ∀ (l : Nat) (pre : List α) (x : α) (W : World) (K : Act → World → Prop), w.heap.size ≤ W.heap.size → I pre W → (∀ a' W', Kept X W W' → I pre W' → Ax x a' W' → K a' W') →
      assign.wpIn (Fence.wide.inRound l) n P (Exit.then K (fun _ _ _ => False)) { tmps := (ps.zip (encs x)).foldl (fun t (p, v) => t.setIfInBounds p v) a.tmps, defers := [] } W)
    (hbody : ∀ (l : Nat) (pre : List α) (x : α) (a' : Act) (W : World), w.heap.size ≤ W.heap.size → I pre W → Ax x a' W → Q pre x → body.wpIn (Fence.wide.inRound l) n P (rPost X G I Ix pre x W) a' W)
    (hdone : ∀ (D : Nat) (xs : List α) (W : World), w.heap.size ≤ D → S xs → I xs W → W.heap[D]? = some (.deferred (some [])) → Z .normal { a with defers := { target := .collected D, args := #[] } :: a.defers } W)
    (hstop : ∀ (D : Nat) (c : Code) (pre : List α) (W : World), w.heap.size ≤ D → Sp pre → Ix c pre W → W.heap[D]? = some (.deferred (some [])) → c.wpIn Fence.wide n P Z { a with defers := { target := .collected D, args := #[] } :: a.defers } W) :
    (Code.rangeFunc g ps assign body).wpIn Fence.wide n P Z a w := by
  refine wpIn_rangeFunc fun fn hfn => ?_
  obtain ⟨rec, hrec⟩ : ∃ rec : LoopState → Option Code → Loop, rec = fun st pe => { state := st, pending := pe, fn, tmps := a.tmps, params := ps, assign, body, defers := w.heap.size } := ⟨_, rfl⟩
  obtain ⟨W1, hW1⟩ : ∃ W1, (w.alloc (.deferred (some []))).alloc (.loop (rec .ready none)) = W1 := ⟨_, rfl⟩
  have hsz : W1.heap.size = w.heap.size + 2 := by rw [← hW1]; simp
  have hL1 : W1.heap[w.heap.size + 1]? = some (.loop (rec .ready none)) := by
    rw [← hW1]; have := World.alloc_heap_new (w.alloc (.deferred (some []))) (.loop (rec .ready none)); rwa [World.size_alloc] at this
  have hK1 : W1.heap[w.heap.size]? = some (.deferred (some [])) := by
    rw [← hW1]; exact (Below.heap_alloc _ _ _ (by simp)).trans (World.alloc_heap_new w _)
  have hI1 : I [] W1 := by rw [← hW1]; exact hI.alloc _ (hI.alloc _ h0)
  have hb1 : Below w0.heap.size w0 W1 := by
    rw [← hW1]; exact hb0.trans ((((Below.refl _ w).alloc (Nat.le_refl _) _).alloc (by simp) _).mono hb0.size)
  have hXl : ¬ X (w.heap.size + 1) := fun h => by have := hX _ h; omega
  have hXd : ¬ X w.heap.size := fun h => by have := hX _ h; omega
  refine ⟨w.heap.size + 1, [{ target := .collected w.heap.size, args := #[] }], W1, { target := .fn (.func gf) lb, args := #[.func (.yield (w.heap.size + 1)) #[] #[]] }, W1, gf,
    #[.func (.yield (w.heap.size + 1)) #[] #[]] ++ lb, W1, ?_, ?_, fun _ _ => trivial, ?_, (fun h => (by cases h)), ?_⟩
  · rw [← hW1, hrec]; exact run_enterLoop_outer _ _ _ _ _
  · simp only [resolve, hg]
    simp [go_sem]
  · simp [invoke, go_sem, eg]
  · -- what is kept through a turn of a block beyond W1
    have turn : ∀ {k : Nat} {o : Obj} {A B : World} {row : Option Nat}, k < W1.heap.size → A.heap[k]? = some o → A.grownBy B row → (∀ r, row = some r → W1.heap.size ≤ r ∧ ∃ o : Obj, A.heap[r]? = some o ∧ o.isCells = false) → B.heap[k]? = some o :=
      fun hk ho hgr hr => (hgr.block _ (Array.getElem?_eq_some_iff.1 ho).1 (fun e => by have := (hr _ e.symm).1; omega)).trans ho
    have wide : ∀ {A : World} {row : Option Nat}, (∀ r, row = some r → W1.heap.size ≤ r ∧ ∃ o : Obj, A.heap[r]? = some o ∧ o.isCells = false) → (∀ r, row = some r → w.heap.size ≤ r ∧ ∃ o : Obj, A.heap[r]? = some o ∧ o.isCells = false) :=
      fun hr r e => ⟨by have := (hr r e).1; omega, (hr r e).2⟩
    refine callsIn_wide.2 ((hseq (w.heap.size + 1)
      (fun pre W => I pre W ∧ W.heap[w.heap.size + 1]? = some (.loop (rec .ready none)) ∧ W.heap[w.heap.size]? = some (.deferred (some [])))
      (fun pre W => ∃ c, Ix c pre W ∧ W.heap[w.heap.size + 1]? = some (.loop (rec .done (some c))) ∧ W.heap[w.heap.size]? = some (.deferred (some [])))
      W1 hb1 (by have := hb0.size; omega) (by omega)
      (fun s A B row hs hg' hr => ⟨hI s A B row hs.1 hg' (wide hr), turn (by omega) hs.2.1 hg' hr, turn (by omega) hs.2.2 hg' hr⟩)
      (fun s A B row ⟨c, hc, hl, hk⟩ hg' hr => ⟨c, hIx c s A B row hc hg' (wide hr), turn (by omega) hl hg' hr, turn (by omega) hk hg' hr⟩)
      ?_ ⟨hI1, hL1, hK1⟩).mono ?_)
    · rintro pre x W ⟨hi, hl, hk⟩ hq
      have hy := run_yield (P := P) (args := encs x) hl (by rw [hrec]; exact hps x)
      rw [hrec] at hy
      refine ⟨fn, _, assign, body, hy, roundIn_deep (m := n) (roundIn_of_wpIn hfn (hassign _ pre x W _ (by have := (Array.getElem?_eq_some_iff.1 hl).1; omega) hi ?_))⟩
      clear hy
      intro a' Wa hka hia hax
      have hl' := (hka.same _ (Array.getElem?_eq_some_iff.1 hl).1 hXl).trans hl
      have hk' := (hka.same _ (Array.getElem?_eq_some_iff.1 hk).1 hXd).trans hk
      have hlt : w.heap.size + 1 < Wa.heap.size := (Array.getElem?_eq_some_iff.1 hl').1
      refine ⟨_, run_beginRound hl' (by rw [hrec]), ?_⟩
      obtain ⟨Wb, hWb⟩ : ∃ Wb, Wa.putObj (w.heap.size + 1) (.loop { rec .ready none with state := .busy }) = Wb := ⟨_, rfl⟩
      have hkb : Kept (fun k => X k ∨ k = w.heap.size + 1) Wa Wb := by rw [← hWb]; exact Kept.putObj (.inr rfl) _
      have hl2 : Wb.heap[w.heap.size + 1]? = some (.loop { rec .ready none with state := .busy }) := by rw [← hWb]; exact World.putObj_heap_same hlt
      have hk2 : Wb.heap[w.heap.size]? = some (.deferred (some [])) := by rw [← hWb]; exact (World.putObj_heap_other (by omega)).trans hk'
      have hib : I pre Wb := by rw [← hWb]; exact hI.putObj _ hia (by omega) hl' rfl
      have hab : Ax x a' Wb := by rw [← hWb]; exact (hAx x a').putObj (s := ()) _ hax (by omega) hl' rfl
      rw [hWb]
      refine wpIn_mono (hbody _ pre x a' Wb (by have := (Array.getElem?_eq_some_iff.1 hl2).1; omega) hib hab hq) ?_
      have fin : ∀ (jump : Option Code) (W3 : World), Kept X Wb W3 →
          ∃ W4, (Instr.endRound (w.heap.size + 1) jump).run P W3 = .ok (.bool jump.isNone) W4 ∧ W4 = W3.putObj (w.heap.size + 1) (.loop (rec (if jump.isNone then .ready else .done) jump)) ∧
          (∃ o : Obj, W3.heap[w.heap.size + 1]? = some o ∧ o.isCells = false) ∧
          W4.heap[w.heap.size + 1]? = some (.loop (rec (if jump.isNone then .ready else .done) jump)) ∧ W4.heap[w.heap.size]? = some (.deferred (some [])) ∧ Kept (fun k => X k ∨ k = w.heap.size + 1) W W4 := fun jump W3 hk3 => by
        have hl3 := (hk3.same _ (Array.getElem?_eq_some_iff.1 hl2).1 hXl).trans hl2
        have hd3 := (hk3.same _ (Array.getElem?_eq_some_iff.1 hk2).1 hXd).trans hk2
        have := run_endRound (P := P) jump hl3
        refine ⟨_, this, by rw [hrec], ⟨_, hl3, rfl⟩, ?_, (World.putObj_heap_other (by omega)).trans hd3, ((hka.mono fun _ h => .inl h).trans hkb).trans ((hk3.mono fun _ h => .inl h).trans (Kept.putObj (.inr rfl) _))⟩
        rw [hrec]; exact World.putObj_heap_same (Array.getElem?_eq_some_iff.1 hl3).1
      rintro e a3 W3 hp
      cases e with
      | normal =>
        obtain ⟨hk3, hgx, hi3⟩ := hp
        obtain ⟨W4, hr, e4, ⟨o, ho, hoc⟩, hl4, hk4, hkk⟩ := fin none W3 hk3
        exact ⟨_, _, hr, .inl ⟨rfl, hgx, ⟨by rw [e4]; exact hI.putObj _ hi3 (by omega) ho hoc, hl4, hk4⟩, hkk⟩⟩
      | ret =>
        obtain ⟨hk3, hi3⟩ := hp
        obtain ⟨W4, hr, e4, ⟨o, ho, hoc⟩, hl4, hk4, hkk⟩ := fin (some .ret) W3 hk3
        exact ⟨_, _, hr, .inr ⟨rfl, ⟨.ret, by rw [e4]; exact (hIx _).putObj _ hi3 (by omega) ho hoc, hl4, hk4⟩, hkk⟩⟩
      | exit id =>
        obtain ⟨hk3, hi3⟩ := hp
        obtain ⟨W4, hr, e4, ⟨o, ho, hoc⟩, hl4, hk4, hkk⟩ := fin (some (.exit id)) W3 hk3
        exact ⟨_, _, hr, .inr ⟨rfl, ⟨.exit id, by rw [e4]; exact (hIx _).putObj _ hi3 (by omega) ho hoc, hl4, hk4⟩, hkk⟩⟩
      | goto t =>
        obtain ⟨hk3, hi3⟩ := hp
        obtain ⟨W4, hr, e4, ⟨o, ho, hoc⟩, hl4, hk4, hkk⟩ := fin (some (.goto t)) W3 hk3
        exact ⟨_, _, hr, .inr ⟨rfl, ⟨.goto t, by rw [e4]; exact (hIx _).putObj _ hi3 (by omega) ho hoc, hl4, hk4⟩, hkk⟩⟩
      | panic ch => exact hp.elim
      | outgrown => exact hp.elim
    · rintro e W2 ⟨⟨v, rfl⟩, (⟨xs, hS, hi, hl, hk⟩ | ⟨pre, hSp, c, hi, hl, hk⟩)⟩
      · exact ⟨none, _, by have := run_endLoop (P := P) hl (by rw [hrec]; simp); rw [hrec] at this; exact this, hdone _ xs _ (Nat.le_refl _) hS (hI.putObj _ hi (by omega) hl rfl) ((World.putObj_heap_other (by omega)).trans hk)⟩
      · exact ⟨some c, _, by have := run_endLoop (P := P) hl (by rw [hrec]; simp); rw [hrec] at this; exact this, hstop _ c pre _ (Nat.le_refl _) hSp ((hIx c).putObj _ hi (by omega) hl rfl) ((World.putObj_heap_other (by omega)).trans hk)⟩
end Go.Proofs.YtoaglkjpjolacaaGreatDoor.E
namespace Go.Proofs.YtoaglkjpjolacaaGreatDoor.E
open Go.RowKit Go.Shelf
attribute [local go_sem] Oper.semAt_some

/-- A node as the iterator hands it on: its N, its kids' slice, its depth, what is above. -/
structure It where
  o : Int
  A : Option Addr
  n : Nat
  c : Nat
  d : Int
  s : Int
def It.key (x : It) : Key := (x.o, x.n, x.d, x.s)
def It.enc (x : It) : Array Value := #[tv x.o x.A x.n x.c, .agg #[.int .i64 x.d, .int .i64 x.s]]

set_option maxHeartbeats 1000000 in
theorem nodes_in (n : Nat) (o : Int) (A : Option Addr) (k c : Nat) (d s : Int) (w : World) :
    CallsIn Fence.wide n Tryz.prog 96 #[tv o A k c, .agg #[.int .i64 d, .int .i64 s]] w fun e w' => e = .returned (.func (.func 145) #[] #[.pointer (some ⟨w.heap.size, 0, none⟩), .pointer (some ⟨w.heap.size + 1, 0, none⟩)]) ∧
      (w.alloc (.cells #[.int .i64 o, .slice A k c] 27)).alloc (.cells #[.int .i64 d, .int .i64 s] 112) = w' := by
  unfold tv
  refine callsIn_of_wp Tryz.func96 rfl trivial ?_ rfl
  simp only [Tryz.ntmps96, List.size_toArray, List.length_cons, List.length_nil, Nat.reduceAdd, Nat.reduceSub, Array.replicate_succ, Array.replicate_zero, List.push_toArray, List.append_toArray, List.nil_append, List.cons_append]
  gi_wp2
  go_ret
  exact ⟨rfl, rfl⟩

/-- The cells of every block but those of X hold what they held. -/
def Holds (X : Nat → Prop) (Z W : World) : Prop := ∀ (p : Addr) (v : Value), ¬ X p.block → Z.cell? p = some v → W.cell? p = some v
theorem Holds.refl (X : Nat → Prop) (Z : World) : Holds X Z Z := fun _ _ _ h => h
theorem Holds.trans {X : Nat → Prop} {A B C : World} (h : Holds X A B) (g : Holds X B C) : Holds X A C := fun p v hx hc => g p v hx (h p v hx hc)
theorem Kept.holds {X : Nat → Prop} {A B : World} (h : Kept X A B) : Holds X A B := fun _ _ hx hc => h.cell hx hc
theorem Holds.own {β : Type} (X : Nat → Prop) (Z : World) : Own (fun (_ : β) W => Holds X Z W) := fun _ _ _ _ hs hg hr => fun p v hx hc => cell_kept (hs p v hx hc) hg hr
/-- Marks of loops that are over, the youngest first. -/
def Marks (W : World) : Nat → Nat → List Deferred → Prop
  | _, _, [] => True
  | L, B, d :: ds => ∃ D, d = { target := .collected D, args := #[] } ∧ L ≤ D ∧ D < B ∧ W.heap[D]? = some (.deferred (some [])) ∧ Marks W L D ds
theorem Marks.keep {W W' : World} : ∀ {L B : Nat} {ds : List Deferred}, (∀ k, L ≤ k → k < B → W.heap[k]? = some (.deferred (some [])) → W'.heap[k]? = some (.deferred (some []))) → Marks W L B ds → Marks W' L B ds
  | _, _, [], _, _ => trivial
  | _, _, _ :: _, hk, ⟨D, e, h1, h2, h3, h4⟩ => ⟨D, e, h1, h2, hk D h1 h2 h3, h4.keep fun k a b => hk k a (Nat.lt_trans b h2)⟩
theorem Marks.more {W : World} : ∀ {L B B' : Nat} {ds : List Deferred}, B ≤ B' → Marks W L B ds → Marks W L B' ds
  | _, _, _, [], _, _ => trivial
  | _, _, _, _ :: _, hb, ⟨D, e, h1, h2, h3, h4⟩ => ⟨D, e, h1, Nat.lt_of_lt_of_le h2 hb, h3, h4⟩
theorem Marks.own {β : Type} (L B : Nat) (ds : List Deferred) : OwnFrom B (fun (_ : β) W => Marks W L B ds) := fun _ _ _ _ hs hg hr =>
  hs.keep fun k _ hk h => (hg.block k (Array.getElem?_eq_some_iff.1 h).1 (fun e => by have := (hr _ e.symm).1; omega)).trans h
theorem own_more {β : Type} {B B' : Nat} {I : β → World → Prop} (h : OwnFrom B I) (hB : B ≤ B') : OwnFrom B' I := fun s W W' row hs hg hr => h s W W' row hs hg fun r e => ⟨Nat.le_trans hB (hr r e).1, (hr r e).2⟩
/-- A function without results leaves, its marks taken in one by one. -/
theorem leave_marks {P : Program} {fn : Func} {n : Nat} {tmps : Array Value} {R : Ending → World → Prop} (hres : fn.results = #[]) {L : Nat} (hR : ∀ W W' row, R (.returned (.tuple #[])) W → W.grownBy W' row → (∀ r, row = some r → L ≤ r ∧ ∃ o : Obj, W.heap[r]? = some o ∧ o.isCells = false) → R (.returned (.tuple #[])) W') :
    ∀ (ds : List Deferred) (B : Nat) (W : World), Marks W L B ds → R (.returned (.tuple #[])) W → LeavesInM Fence.wide n P fn tmps R ds .returning W
  | [], _, W, _, h => ⟨_, results_none hres _ _ _, h⟩
  | d :: ds, B, W, ⟨D, e, h1, h2, h3, h4⟩, h => by
    subst e
    refine ⟨by simp, .inl ⟨D, _, rfl, run_takeDeferred h3, leave_marks hres hR ds D _ (h4.keep fun k _ hk hd => (World.putObj_heap_other (by omega)).trans hd) (hR W _ (some D) h (grownBy_putObj' W D _) fun r e => by cases e; exact ⟨h1, _, h3, rfl⟩)⟩⟩

theorem round_in {m m' : Nat} (l' : Nat) {P : Program} {l : Nat} {f : FuncId} {tmps : Array Value} {assign body : Code} {w : World} {R : Ending → World → Prop}
    (h : RoundIn Fence.wide m P l f tmps assign body w R) : RoundIn (Fence.wide.inRound l') m' P l f tmps assign body w R := roundIn_deep (m' := m') h

set_option maxRecDepth 100000 in
set_option maxHeartbeats 4000000 in
theorem nodes_seq (P : Nat → Prop) : ∀ (N : Nat) (o : Int) (ks : Fo) (A : Option Addr) (c : Nat) (d s : Int) (Bt Bd : Nat) (X : Nat → Prop) (Q : List It → It → Prop) (G : It → Prop) (w : World), ks.size < N → (∀ x, G x → x.n = 0 ∨ x.n = 2) → (∀ (pre : List It) (x : It), pre.map It.key ++ [x.key] <+: walkT o ks d s → Q pre x) →
    Kd P w ks A → (∀ b, P b → b < w.heap.size) → Bt < w.heap.size → Bd < w.heap.size → w.cell? ⟨Bt, 0, none⟩ = some (.int .i64 o) → w.cell? ⟨Bt, 1, none⟩ = some (.slice A ks.len c) → w.cell? ⟨Bd, 0, none⟩ = some (.int .i64 d) → w.cell? ⟨Bd, 1, none⟩ = some (.int .i64 s) → ¬ X Bt → ¬ X Bd → (∀ k, X k → ¬ P k ∧ k < w.heap.size) →
    SeqQ Tryz.prog 145 #[.pointer (some ⟨Bt, 0, none⟩), .pointer (some ⟨Bd, 0, none⟩)] It.enc X Q G (fun ys => ys.map It.key = walkT o ks d s) (fun pre => pre.map It.key <+: walkT o ks d s) w := by
  intro N
  induction N with
  | zero => intro o ks A c d s Bt Bd X Q G w h; omega
  | succ N ih =>
  intro o ks A c d s Bt Bd X Q G w hN hG hQ hk hP hBt hBd c0 c1 c2 c3 hXt hXd hX l J Jx W hW hl1 hl2 hJ hJx hY h0
  refine (callsIn_wide (n := 3)).1 ?_
  have hJ0 : J [] (W.alloc (.cells #[.func (.yield l) #[] #[]] 164)) := hJ.alloc _ h0
  have keep0 : ∀ {b i : Nat} {v : Value}, b < w.heap.size → w.cell? ⟨b, i, none⟩ = some v → (W.alloc (.cells #[.func (.yield l) #[] #[]] 164)).cell? ⟨b, i, none⟩ = some v := fun {b i v} hb hc => ((Below.refl _ W).alloc (Nat.le_refl _) _).cell (p := ⟨b, i, none⟩) (Nat.lt_of_lt_of_le hb hW.size) |>.trans ((hW.cell (p := ⟨b, i, none⟩) hb).trans hc)
  have t0 := keep0 hBt c0
  have t1 := keep0 hBt c1
  have t2 := keep0 hBd c2
  have t3 := keep0 hBd c3
  clear keep0
  obtain ⟨fn, tmps, assign, body, hy, hR⟩ := hY [] ⟨o, A, ks.len, c, d, s⟩ _ hJ0 (hQ [] _ (by simp [It.key, walkT]))
  unfold It.enc tv at hy
  dsimp only at hy
  have HR := fun m => roundIn_deep (m' := m) hR
  clear hR
  have HH := Lib.hid (And.intro hQ (And.intro hk (And.intro hX (And.intro hY (And.intro ih hP)))))
  clear ih hQ hk hX hY hP
  refine callsIn_of_wp_marks Tryz.func145 rfl trivial ?_ rfl
  simp only [Tryz.ntmps145, List.size_toArray, List.length_cons, List.length_nil, Nat.reduceAdd, Nat.reduceSub, Array.replicate_succ, Array.replicate_zero, List.push_toArray, List.append_toArray, List.nil_append, List.cons_append]
  gi_wp2
  refine (HR _).mono ?_
  clear HR
  obtain ⟨Wy, hWy⟩ : ∃ Wy, W.alloc (.cells #[.func (.yield l) #[] #[]] 164) = Wy := ⟨_, rfl⟩
  have hyb : Wy.cell? ⟨W.heap.size, 0, none⟩ = some (.func (.yield l) #[] #[]) := by rw [← hWy]; simp [go_sem]
  have hsy : Wy.heap.size = W.heap.size + 1 := by rw [← hWy]; simp
  have hWy' : Below w.heap.size w Wy := by rw [← hWy]; exact hW.trans (((Below.refl _ W).alloc (Nat.le_refl _) _).mono hW.size)
  rw [hWy] at t0 t1 t2 t3 ⊢
  clear hJ0 hy
  have hsz := hW.size
  have RR : ∀ (A B : World) (row : Option Nat), ((∃ v, Ending.returned (.tuple #[]) = .returned v) ∧ ((∃ xs : List It, xs.map It.key = walkT o ks d s ∧ J xs A) ∨ ∃ pre : List It, pre.map It.key <+: walkT o ks d s ∧ Jx pre A)) → A.grownBy B row → (∀ r, row = some r → W.heap.size ≤ r ∧ ∃ o : Obj, A.heap[r]? = some o ∧ o.isCells = false) →
      ((∃ v, Ending.returned (.tuple #[]) = .returned v) ∧ ((∃ xs : List It, xs.map It.key = walkT o ks d s ∧ J xs B) ∨ ∃ pre : List It, pre.map It.key <+: walkT o ks d s ∧ Jx pre B)) := by
    rintro A B row ⟨h1, h2⟩ hg hr
    refine ⟨h1, ?_⟩
    rcases h2 with ⟨xs, e, h⟩ | ⟨pre, e, h⟩
    · exact .inl ⟨xs, e, hJ xs A B row h hg hr⟩
    · exact .inr ⟨pre, e, hJx pre A B row h hg hr⟩
  have RR := Lib.hid RR
  rintro e W3 (⟨rfl, hg3, hj3, hk3⟩ | ⟨rfl, hx3, hk3⟩)
  · obtain ⟨hQ, hk, hX, hY, ih, hP⟩ := HH.out
    have hX' : ∀ k, X k ∨ k = l → ¬ P k ∧ k < W.heap.size := by
      rintro k (h | rfl)
      · have := hX k h; exact ⟨this.1, by omega⟩
      · exact ⟨fun h => absurd (hP _ h) (by omega), by omega⟩
    have hold3 := hk3.holds
    have hXb : ∀ B, B < w.heap.size → ¬ X B → ¬ (X B ∨ B = l) := by
      rintro B hB hx (h | rfl)
      · exact hx h
      · omega
    have hXn : ∀ B, W.heap.size ≤ B → ¬ (X B ∨ B = l) := fun B hB h => by have := (hX' B h).2; omega
    have s0 := hold3 ⟨Bt, 0, none⟩ _ (hXb Bt hBt hXt) t0
    have s1 := hold3 ⟨Bt, 1, none⟩ _ (hXb Bt hBt hXt) t1
    have s2 := hold3 ⟨Bd, 0, none⟩ _ (hXb Bd hBd hXd) t2
    have s2b := hold3 ⟨Bd, 1, none⟩ _ (hXb Bd hBd hXd) t3
    have s3 := hold3 ⟨W.heap.size, 0, none⟩ _ (hXn _ (Nat.le_refl _)) hyb
    have hmem : Kd P W3 ks A := (hk.keep fun p v hp hc => (hWy'.cell (hP _ hp)).trans hc).keep fun p v hp hc => hold3 p v (fun h => (hX' _ h).1 hp) hc
    have hsz3 : W.heap.size + 1 ≤ W3.heap.size := by have := hk3.size; omega
    rw [List.nil_append] at hj3
    have hlen : ks.len ≤ 2 := by rcases hG _ hg3 with h | h <;> (simp only at h; omega)
    obtain ⟨W4, hW4⟩ : ∃ W4, W3.alloc (.cells #[.int .i64 (wrap64 (d + 1)), .int .i64 (wrap64 (s + o))] 112) = W4 := ⟨_, rfl⟩
    have hb4 : Below W3.heap.size W3 W4 := by rw [← hW4]; exact (Below.refl _ W3).alloc (Nat.le_refl _) _
    have hs4 : W4.heap.size = W3.heap.size + 1 := by rw [← hW4]; simp
    have hj4 : J [⟨o, A, ks.len, c, d, s⟩] W4 := by rw [← hW4]; exact hJ.alloc _ hj3
    have u1 : W4.cell? ⟨Bt, 1, none⟩ = some (.slice A ks.len c) := (hb4.cell (World.block_lt_of_cell? W3 _ s1)).trans s1
    have u3 : W4.cell? ⟨W.heap.size, 0, none⟩ = some (.func (.yield l) #[] #[]) := (hb4.cell (World.block_lt_of_cell? W3 _ s3)).trans s3
    have u4 : W4.cell? ⟨W3.heap.size, 0, none⟩ = some (.int .i64 (wrap64 (d + 1))) := by rw [← hW4]; simp [go_sem]
    have u5 : W4.cell? ⟨W3.heap.size, 1, none⟩ = some (.int .i64 (wrap64 (s + o))) := by rw [← hW4]; simp [go_sem]
    have hmem4 : Kd P W4 ks A := hmem.keep fun p v _ hc => (hb4.cell (World.block_lt_of_cell? W3 p hc)).trans hc
    clear t0 t1 t2 t3 c0 c1 c2 c3 hyb h0 hk hWy' hWy hold3 hk3 hg3
    have HY := Lib.hid (And.intro hQ (And.intro hX (And.intro hY (And.intro ih hP))))
    clear HH hQ hX hY ih hP hb4 hmem hj3
    gi_wp2
    clear s0 s1 s2 s2b s3 hW4
    obtain ⟨Bb, hBb⟩ : ∃ Bb, W3.heap.size = Bb := ⟨_, rfl⟩
    rw [hBb] at u4 u5 ⊢
    have hBbn : W.heap.size ≤ Bb := by omega
    refine wpIn_loop (fun a Wr => ∃ (i : Nat) (fo : Fo) (pre : List It) (v6 v27 v28 v29 v30 v31 v32 v40 : Value) (ds : List Deferred), a = { tmps := #[.func (.yield l) #[] #[], .pointer (some ⟨Bt, 0, none⟩), .pointer (some ⟨Bd, 0, none⟩), .pointer (some ⟨W.heap.size, 0, none⟩), .pointer (some ⟨Bb, 0, none⟩), undef, v6, undef, undef, .func (.yield l) #[] #[], .agg #[.int .i64 o, .slice A ks.len c], .agg #[.int .i64 d, .int .i64 s], .bool true, .bool false, .pointer (some ⟨Bd, 0, none⟩), .int .i64 d, .int .i64 (wrap64 (d + 1)), .pointer (some ⟨Bd, 1, none⟩), .int .i64 s, .pointer (some ⟨Bt, 0, none⟩), .int .i64 o, .int .i64 (wrap64 (s + o)), .agg #[.int .i64 (wrap64 (d + 1)), .int .i64 (wrap64 (s + o))], .pointer (some ⟨Bt, 1, none⟩), .slice A ks.len c, .int .i64 (ks.len : Int), .int .i64 (i : Int), v27, v28, v29, v30, v31, v32, undef, undef, undef, undef, undef, undef, undef, v40], defers := ds } ∧ Hid (i + fo.len = ks.len) ∧ Hid (fo.len = 0 ∨ ∃ b off, A = some ⟨b, off, none⟩ ∧ P b ∧ InF P W4 fo b (off + i * 2)) ∧ Hid (fo.size ≤ ks.size) ∧ Hid (pre.map It.key ++ walkK fo (wrap64 (d + 1)) (wrap64 (s + o)) = walkT o ks d s) ∧ J pre Wr ∧ Hid (Holds (fun k => X k ∨ k = l) W4 Wr) ∧ Hid (Marks Wr W.heap.size Wr.heap.size ds) ∧ W.heap.size + 1 ≤ Wr.heap.size) (fun a _ => ks.len - (intOf (a.tmps.getD 26 undef)).toNat) ?start ?round
    case start =>
      refine ⟨0, ks, [⟨o, A, ks.len, c, d, s⟩], undef, undef, undef, undef, undef, undef, undef, undef, [], rfl, by show _ = _; omega, ?_, Nat.le_refl _, ?_, hj4, Holds.refl _ _, trivial, by omega⟩
      · rcases hmem4 with h | ⟨b, off, e, hb, h⟩
        · exact .inl h
        · exact .inr ⟨b, off, e, hb, by rw [Nat.zero_mul, Nat.add_zero]; exact h⟩
      · show _ = _; simp [It.key, walkT]
    case round =>
      rintro a Wr ⟨i, fo, pre, v6, v27, v28, v29, v30, v31, v32, v40, ds, rfl, hi, hfo, hfs, hpre, hJr, hH, hM, hsr⟩
      have r1 := hH.out _ _ (hXb Bt hBt hXt) u1
      have r3 := hH.out _ _ (hXn _ (Nat.le_refl _)) u3
      have r4 := hH.out _ _ (hXn _ hBbn) u4
      have r5 := hH.out _ _ (hXn _ hBbn) u5
      clear u1 u3 u4 u5 hj4 hmem4
      cases fo with
      | nil =>
        have hin : i = ks.len := by have := hi.out; simp [Fo.len] at this; exact this
        subst hin
        have HP : Hid (pre.map It.key = walkT o ks d s) := by show _ = _; have := hpre.out; simpa [walkK] using this
        gi_wp2
        exact leave_marks rfl (L := W.heap.size) RR.out ds _ _ hM.out ⟨⟨_, rfl⟩, .inl ⟨pre, HP.out, hJr⟩⟩
      | cons o1 k1 rest =>
        have hlt : i < ks.len := by have := hi.out; simp [Fo.len] at this; omega
        obtain ⟨b, off, hA, hb, ⟨A1, c1, m1, m2, m3⟩, m4⟩ : ∃ b off, A = some ⟨b, off, none⟩ ∧ P b ∧ InF P W4 (.cons o1 k1 rest) b (off + i * 2) := by
          rcases hfo.out with h | h
          · simp [Fo.len] at h
          · exact h
        have hXm : ∀ B, P B → ¬ (X B ∨ B = l) := fun B hB h => (hX' B h).1 hB
        have g1 := hH.out _ _ (hXm b hb) m1
        have g2 := hH.out _ _ (hXm b hb) m2
        have hm3 : Kd P Wr k1 A1 := Kd.keep (fun p v hp hc => hH.out p v (hXm _ hp) hc) (w := W4) m3
        subst hA
        have hBbr : Bb < Wr.heap.size := World.block_lt_of_cell? Wr _ r4
        have r4a : (Wr.alloc (.cells #[.int .i64 o1, .slice A1 k1.len c1] 27)).cell? ⟨Bb, 0, none⟩ = some (.int .i64 (wrap64 (d + 1))) := (((Below.refl _ Wr).alloc (Nat.le_refl _) _).cell (p := ⟨Bb, 0, none⟩) hBbr).trans r4
        have r5a : (Wr.alloc (.cells #[.int .i64 o1, .slice A1 k1.len c1] 27)).cell? ⟨Bb, 1, none⟩ = some (.int .i64 (wrap64 (s + o))) := (((Below.refl _ Wr).alloc (Nat.le_refl _) _).cell (p := ⟨Bb, 1, none⟩) hBbr).trans r5
        gi_wp2_with (refine ⟨trivial, ?_⟩; gi_at_call 96; refine (nodes_in _ o1 A1 k1.len c1 _ _ _).mono ?_; rintro e w' ⟨rfl, rfl⟩)
        obtain ⟨Wa, hWa⟩ : ∃ Wa, ((Wr.alloc (.cells #[.int .i64 o1, .slice A1 k1.len c1] 27)).alloc (.cells #[.int .i64 o1, .slice A1 k1.len c1] 27)).alloc (.cells #[.int .i64 (wrap64 (d + 1)), .int .i64 (wrap64 (s + o))] 112) = Wa := ⟨_, rfl⟩
        have hsa : Wa.heap.size = Wr.heap.size + 3 := by rw [← hWa]; simp
        have hka : Below Wr.heap.size Wr Wa := by rw [← hWa]; exact three_boxes Wr _ _ _
        have a0 : Wa.cell? ⟨Wr.heap.size + 1, 0, none⟩ = some (.int .i64 o1) := by rw [← hWa]; simp [go_sem]
        have a1 : Wa.cell? ⟨Wr.heap.size + 1, 1, none⟩ = some (.slice A1 k1.len c1) := by rw [← hWa]; simp [go_sem]
        have a2 : Wa.cell? ⟨Wr.heap.size + 1 + 1, 0, none⟩ = some (.int .i64 (wrap64 (d + 1))) := by rw [← hWa]; simp [go_sem]
        have a2b : Wa.cell? ⟨Wr.heap.size + 1 + 1, 1, none⟩ = some (.int .i64 (wrap64 (s + o))) := by rw [← hWa]; simp [go_sem]
        have a3 : Wa.cell? ⟨W.heap.size, 0, none⟩ = some (.func (.yield l) #[] #[]) := (hka.cell (p := ⟨W.heap.size, 0, none⟩) (by show W.heap.size < Wr.heap.size; omega)).trans r3
        have aJ : J pre Wa := by rw [← hWa]; exact hJ.alloc _ (hJ.alloc _ (hJ.alloc _ hJr))
        have aM : Marks Wa W.heap.size Wa.heap.size ds := (hM.out.keep fun k _ hk h => (hka.block k hk).trans h).more (by omega)
        have aK : Kd P Wa k1 A1 := hm3.keep fun p v hp hc => (hka.cell (World.block_lt_of_cell? Wr p hc)).trans hc
        have aH : Holds (fun k => X k ∨ k = l) W4 Wa := hH.out.trans fun p v hx hc => (hka.cell (Array.getElem?_eq_some_iff.1 (cells_of_cell hc).choose_spec.1).1).trans hc
        rw [hWa]
        obtain ⟨hQ, hX, hY, ih, hP⟩ := HY.out
        have hQ1 : ∀ (p' : List It) (x : It), p'.map It.key ++ [x.key] <+: walkT o1 k1 (wrap64 (d + 1)) (wrap64 (s + o)) → Q (pre ++ p') x := fun p' x hx => hQ _ x (by rw [← hpre.out, walkK_cons, List.map_append, List.append_assoc]; exact (List.prefix_append_right_inj _).2 (hx.trans (List.prefix_append _ _)))
        have hseq := ih o1 k1 A1 c1 (wrap64 (d + 1)) (wrap64 (s + o)) (Wr.heap.size + 1) (Wr.heap.size + 1 + 1) (fun k => X k ∨ k = l) (fun p' x => Q (pre ++ p') x) G Wa (by have := hfs.out; simp only [Fo.size] at this; omega) hG hQ1 aK (fun b hb => by have := hP b hb; omega) (by omega) (by omega) a0 a1 a2 a2b
          (hXn _ (by omega)) (hXn _ (by omega)) (fun k h => ⟨(hX' k h).1, by have := (hX' k h).2; omega⟩)
        clear ih hWa r1 r3 r4 r5 r4a r5a g1 g2 m1 m2 m3 hm3 hJr HY
        have HP := Lib.hid hpre.out; clear hpre
        refine range_own (gf := 145) (lb := #[.pointer (some ⟨Wr.heap.size + 1, 0, none⟩), .pointer (some ⟨Wr.heap.size + 1 + 1, 0, none⟩)]) rfl (enters_of Tryz.func145 (by kernel_rfl) rfl) hseq (fun k h => by have := (hX' k h).2; omega) (Below.refl _ _) (fun _ => rfl)
          (fun q V => J (pre ++ q) V ∧ Holds (fun k => X k ∨ k = l) Wa V ∧ Marks V W.heap.size Wa.heap.size ds)
          (fun cd q V => cd = .ret ∧ Jx (pre ++ q) V ∧ Marks V W.heap.size Wa.heap.size ds)
          (OwnFrom.and (fun q V V' row hs hg hr => (own_more hJ (by omega)) (pre ++ q) V V' row hs hg hr) (OwnFrom.and ((Holds.own _ _).from _) (Marks.own _ _ _)))
          (fun cd => OwnFrom.and (ownFrom_pure _ _) (OwnFrom.and (fun q V V' row hs hg hr => (own_more hJx (by omega)) (pre ++ q) V V' row hs hg hr) (Marks.own _ _ _)))
          ⟨by rw [List.append_nil]; exact aJ, Holds.refl _ _, aM⟩
          (fun x a' V => ∃ Bx By, V.cell? ⟨Bx, 0, none⟩ = some (.int .i64 x.o) ∧ V.cell? ⟨Bx, 1, none⟩ = some (.slice x.A x.n x.c) ∧ V.cell? ⟨By, 0, none⟩ = some (.int .i64 x.d) ∧ V.cell? ⟨By, 1, none⟩ = some (.int .i64 x.s) ∧ a' = { tmps := #[.func (.yield l) #[] #[], .pointer (some ⟨Bt, 0, none⟩), .pointer (some ⟨Bd, 0, none⟩), .pointer (some ⟨W.heap.size, 0, none⟩), .pointer (some ⟨Bb, 0, none⟩), undef, .pointer (some ⟨Wr.heap.size, 0, none⟩), .pointer (some ⟨Bx, 0, none⟩), .pointer (some ⟨By, 0, none⟩), .func (.yield l) #[] #[], .agg #[.int .i64 o, .slice (some ⟨b, off, none⟩) ks.len c], .agg #[.int .i64 d, .int .i64 s], .bool true, .bool false, .pointer (some ⟨Bd, 0, none⟩), .int .i64 d, .int .i64 (wrap64 (d + 1)), .pointer (some ⟨Bd, 1, none⟩), .int .i64 s, .pointer (some ⟨Bt, 0, none⟩), .int .i64 o, .int .i64 (wrap64 (s + o)), .agg #[.int .i64 (wrap64 (d + 1)), .int .i64 (wrap64 (s + o))], .pointer (some ⟨Bt, 1, none⟩), .slice (some ⟨b, off, none⟩) ks.len c, .int .i64 (ks.len : Int), .int .i64 (i : Int), .bool true, .pointer (some ⟨b, off + i * 2, none⟩), .agg #[.int .i64 o1, .slice A1 k1.len c1], .agg #[.int .i64 o1, .slice A1 k1.len c1], .agg #[.int .i64 (wrap64 (d + 1)), .int .i64 (wrap64 (s + o))], .func (.func 145) #[] #[.pointer (some ⟨Wr.heap.size + 1, 0, none⟩), .pointer (some ⟨Wr.heap.size + 1 + 1, 0, none⟩)], tv x.o x.A x.n x.c, .agg #[.int .i64 x.d, .int .i64 x.s], undef, undef, undef, undef, undef, v40], defers := [] })
          (fun x a' _ V V' row hs hg hr => by
            obtain ⟨Bx, By, b0, b1, b2, b3, e⟩ := hs
            exact ⟨Bx, By, cell_kept b0 hg (fun r e => (hr r e).2), cell_kept b1 hg (fun r e => (hr r e).2), cell_kept b2 hg (fun r e => (hr r e).2), cell_kept b3 hg (fun r e => (hr r e).2), e⟩) ?assign ?body ?done ?stop
        case assign =>
          rintro l' q x V K hsv ⟨hj, hh, hm⟩ hK
          unfold It.enc tv
          dsimp only
          gi_wp2
          have two : ∀ {I : List It → World → Prop} {B : Nat} (hI : OwnFrom B I) (o1 o2 : Obj), I q V → I q ((V.alloc o1).alloc o2) := fun hI o1 o2 h => hI q _ _ none (hI q V _ none h (World.grownBy_alloc V _ none) (fun r e => by cases e)) (World.grownBy_alloc _ _ none) (fun r e => by cases e)
          refine hK _ _ (((Kept.refl _ V).alloc _).alloc _) ⟨?_, ?_, ?_⟩ ⟨V.heap.size, V.heap.size + 1, by simp [go_sem], by simp [go_sem], by simp [go_sem], by simp [go_sem], rfl⟩
          · exact two (I := fun q V => J (pre ++ q) V) (B := W.heap.size) (fun q V V' row hs hg hr => hJ (pre ++ q) V V' row hs hg hr) _ _ hj
          · exact two (I := fun _ V => Holds (fun k => X k ∨ k = l) Wa V) (B := 0) ((Holds.own _ _).from _) _ _ hh
          · exact two (I := fun _ V => Marks V W.heap.size Wa.heap.size ds) (B := Wa.heap.size) (Marks.own _ _ _) _ _ hm
        case body =>
          rintro l' q x a' V hsv ⟨hj, hh, hm⟩ ⟨Bx, By, b0, b1, b2, b2b, rfl⟩ hq
          have b3 := hh _ _ (hXn _ (Nat.le_refl _)) a3
          obtain ⟨fn2, tmps2, assign2, body2, hy2, hR2⟩ := hY (pre ++ q) x V hj hq
          unfold It.enc tv at hy2
          have hR3 := fun m => round_in (m' := m) l' hR2
          clear hR2 hY hseq hQ hQ1 a0 a1 a2 a2b a3 aJ aM aK aH
          have HMk : ∀ V', Kept (fun k => X k ∨ k = l) V V' → Marks V' W.heap.size Wa.heap.size ds := fun V' hk' => hm.keep fun k hk1 hk2 h => (hk'.same k (Array.getElem?_eq_some_iff.1 h).1 (hXn k hk1)).trans h
          gi_wp2
          refine (hR3 _).mono ?_
          rintro e V2 (⟨rfl, hg2, hj2, hk2⟩ | ⟨rfl, hx2, hk2⟩)
          · gi_wp2
            exact ⟨hk2, hg2, by rw [← List.append_assoc]; exact hj2, hh.trans hk2.holds, HMk V2 hk2⟩
          · gi_wp2
            exact ⟨hk2, rfl, by rw [← List.append_assoc]; exact hx2, HMk V2 hk2⟩
        case done =>
          rintro D xs V hD hxs ⟨hj, hh, hm⟩ hdf
          clear hY hseq hQ hQ1 a0 a1 a2 a2b a3 aJ aM aK
          have hDv := (Array.getElem?_eq_some_iff.1 hdf).1
          have hi2 := hi.out
          have hfs2 := hfs.out
          simp only [Fo.len] at hi2
          simp only [Fo.size] at hfs2
          gi_wp2
          refine ⟨⟨i + 1, rest, pre ++ xs, _, _, _, _, _, _, _, _, _, rfl, by show _ = _; omega, .inr ⟨b, off, rfl, hb, ?_⟩, by show _ ≤ _; omega, ?_, hj, aH.trans hh, ⟨D, rfl, by omega, hDv, hdf, hm.more hD⟩, by omega⟩, ?_⟩
          · rw [show off + (i + 1) * 2 = off + i * 2 + 2 by omega]; exact m4
          · show _ = _
            rw [← HP.out, walkK_cons, List.map_append, hxs, List.append_assoc]
          · simp [intOf]; omega
        case stop =>
          rintro D cd q V hD hq ⟨rfl, hx, hm⟩ hdf
          clear hY hseq hQ hQ1 a0 a1 a2 a2b a3 aJ aM aK
          gi_wp2
          refine leave_marks rfl (L := W.heap.size) RR.out _ (D + 1) _ ⟨D, rfl, by omega, by omega, hdf, hm.more hD⟩ ⟨⟨_, rfl⟩, .inr ⟨_, ?_, hx⟩⟩
          rw [List.map_append, ← HP.out, walkK_cons]
          exact (List.prefix_append_right_inj _).2 (hq.trans (List.prefix_append _ _))
  · clear t0 t1 t2 t3
    gi_wp2
    refine leave_marks rfl (L := W.heap.size) RR.out [] 0 _ trivial ⟨⟨_, rfl⟩, .inr ⟨_, ?_, hx3⟩⟩
    simp [It.key, walkT]
end Go.Proofs.YtoaglkjpjolacaaGreatDoor.E
namespace Go.Proofs.YtoaglkjpjolacaaGreatDoor.E
open Go.RowKit
theorem XS.fresh {w W : World} {bs : List (Nat × Nat × Value)} {rs : List Nat} (h : XS w bs rs W) (u v : Value) (t : TypeId) : XS w bs (rs ++ [W.heap.size]) (W.alloc (.cells #[u, v] t)) := (h.boxed u v t).sub (fun _ hm => List.mem_append_left _ hm) (fun _ hm => hm)
theorem int_zero (n : Nat) : ((n : Int) == 0) = decide (n = 0) := by
  by_cases h : n = 0
  · subst h; rfl
  · rw [decide_eq_false h]; exact beq_eq_false_iff_ne.2 (by omega)
theorem pleaf_any (o : Int) (A : Option Addr) (n c : Nat) (w : World) : Calls Tryz.prog 122 #[tv o A n c] w fun e w' => e = .returned (.bool (decide (n = 0))) ∧ Below w.heap.size w w' := by
  have h := int_zero n
  unfold tv
  go_enter Tryz.func122, Tryz.ntmps122
  go_wp2
  go_ret
  exact ⟨ret_bool (by simp), (Below.refl _ w).alloc (Nat.le_refl _) _⟩

set_option maxHeartbeats 800000 in
theorem rightNode_any (o : Int) (A : Option Addr) (n c : Nat) (w : World) : Calls Tryz.prog 120 #[tv o A n c] w fun e w' => e = .returned (.bool (okN o n)) ∧ Below w.heap.size w w' := by
  have hb0 : Below w.heap.size w (w.alloc (.cells #[.int .i64 o, .slice A n c] 27)) := (Below.refl _ w).alloc (Nat.le_refl _) _
  have hc := pleaf_any o A n c (w.alloc (.cells #[.int .i64 o, .slice A n c] 27))
  unfold tv at *
  by_cases ho : 0 ≤ o
  · go_enter Tryz.func120, Tryz.ntmps120
    go_wp2_with fail
    refine hc.mono ?_
    rintro e w1 ⟨rfl, hb1⟩
    have f1 := (hb1.cell (p := ⟨w.heap.size, 1, none⟩) (by simp)).trans (show _ = some (.slice A n c) by simp [go_sem])
    have HB : Hid (Below w.heap.size w w1) := hb0.trans (hb1.mono (by simp))
    clear hb1 hb0 hc
    by_cases h0 : n = 0
    · subst h0
      go_wp2
      go_ret
      exact ⟨ret_bool (by simp [okN, ho]), HB.out⟩
    · have h0b : decide (n = 0) = false := decide_eq_false h0
      rw [h0b]
      by_cases h2 : n = 2
      · subst h2
        go_wp2
        go_ret
        exact ⟨ret_bool (by simp [okN, ho]), HB.out⟩
      · have h2b : ((n : Int) == 2) = false := beq_eq_false_iff_ne.2 (by omega)
        have HN := Lib.hid h0
        have HN2 := Lib.hid h2
        clear h0 h0b h2
        go_wp2
        go_ret
        exact ⟨ret_bool (by simp [okN, HN.out, HN2.out]), HB.out⟩
  · clear hc
    go_enter Tryz.func120, Tryz.ntmps120
    go_wp2
    go_ret
    exact ⟨ret_bool (by simp [okN]; omega), hb0⟩

set_option maxHeartbeats 800000 in
theorem fits_any (n d s : Int) (w : World) : Calls Tryz.prog 121 #[.int .i64 n, .agg #[.int .i64 d, .int .i64 s]] w fun e w' => e = .returned (.bool (fitsB n d s)) ∧ Below w.heap.size w w' := by
  have hb0 : Below w.heap.size w (w.alloc (.cells #[.int .i64 d, .int .i64 s] 112)) := (Below.refl _ w).alloc (Nat.le_refl _) _
  have HE : Hid (wrap64 (mc - s) = IntKind.i64.wrap (4611686018427387904 - s)) := (IntWalk.i64_left _).symm
  obtain ⟨z, hz⟩ : ∃ z, IntKind.i64.wrap (4611686018427387904 - s) = z := ⟨_, rfl⟩
  have hz2 := (IntWalk.i64_left (4611686018427387904 - s)).symm.trans hz
  rw [hz] at HE
  by_cases hd : d ≤ 32
  · go_enter Tryz.func121, Tryz.ntmps121
    go_wp2
    go_ret
    refine ⟨ret_bool ?_, hb0⟩
    unfold fitsB
    rw [HE.out]
    simp [hd]
  · go_enter Tryz.func121, Tryz.ntmps121
    go_wp2
    go_ret
    exact ⟨ret_bool (by simp [fitsB]; omega), hb0⟩

def alikeB (o1 : Int) (n1 : Nat) (o2 : Int) (n2 : Nat) : Bool := decide (n1 = 0) && (decide (n2 = 0) && decide (o1 = o2))
set_option maxHeartbeats 1600000 in
theorem alike_any (o1 : Int) (A1 : Option Addr) (n1 c1 : Nat) (o2 : Int) (A2 : Option Addr) (n2 c2 : Nat) (w : World) :
    Calls Tryz.prog 161 #[tv o1 A1 n1 c1, tv o2 A2 n2 c2] w fun e w' => e = .returned (.bool (alikeB o1 n1 o2 n2)) ∧ Below w.heap.size w w' := by
  have HX := Lib.hid (((XS.begin w).boxed (.int .i64 o1) (.slice A1 n1 c1) 27).boxed (.int .i64 o2) (.slice A2 n2 c2) 27)
  simp only [List.nil_append, List.cons_append, World.size_alloc] at HX
  have hc := pleaf_any o1 A1 n1 c1 ((w.alloc (.cells #[.int .i64 o1, .slice A1 n1 c1] 27)).alloc (.cells #[.int .i64 o2, .slice A2 n2 c2] 27))
  have hc2 := fun W => pleaf_any o2 A2 n2 c2 W
  unfold tv at *
  go_enter Tryz.func161, Tryz.ntmps161
  go_wp2_with fail
  refine hc.mono ?_
  rintro e w1 ⟨rfl, hb1⟩
  have HX1 := Lib.hid (HX.out.next hb1)
  have f := HX1.out.at0
  simp only [List.mem_cons, List.not_mem_nil, or_false, forall_eq_or_imp, forall_eq] at f
  obtain ⟨p0, p1, p2, p3⟩ := f
  clear hb1 hc HX
  by_cases h0 : n1 = 0
  · subst h0
    go_wp2_with fail
    refine (hc2 w1).mono ?_
    rintro e w2 ⟨rfl, hb2⟩
    have HX2 := Lib.hid (HX1.out.next hb2)
    clear p0 p1 p2 p3
    have f := HX2.out.at0
    simp only [List.mem_cons, List.not_mem_nil, or_false, forall_eq_or_imp, forall_eq] at f
    obtain ⟨p0, p1, p2, p3⟩ := f
    clear hb2 hc2 HX1
    by_cases h2 : n2 = 0
    · subst h2
      go_wp2
      go_ret
      exact ⟨ret_bool (by simp [alikeB]; rfl), HX2.out.bel⟩
    · have h2b : decide (n2 = 0) = false := decide_eq_false h2
      rw [h2b]
      have HN := Lib.hid h2
      clear h2 h2b
      go_wp2
      go_ret
      exact ⟨ret_bool (by simp [alikeB, HN.out]), HX2.out.bel⟩
  · have h0b : decide (n1 = 0) = false := decide_eq_false h0
    rw [h0b]
    have HN := Lib.hid h0
    clear h0 h0b hc2
    go_wp2
    go_ret
    exact ⟨ret_bool (by simp [alikeB, HN.out]), HX1.out.bel⟩
theorem alike_in {P Q : Nat → Prop} {w W : World} {x y : Tr} {o1 o2 : Int} {A1 A2 : Option Addr} {n1 n2 c1 c2 : Nat} (hx : InP P w x (tv o1 A1 n1 c1)) (hy : InP Q W y (tv o2 A2 n2 c2)) : alikeB o1 n1 o2 n2 = Tr.alike x y := by
  rcases hx.leafy with ⟨rfl, rfl⟩ | ⟨rfl, l, r, rfl⟩
  · rcases hy.leafy with ⟨rfl, rfl⟩ | ⟨rfl, l, r, rfl⟩
    · simp [alikeB, Tr.alike]
    · simp [alikeB, Tr.alike]
  · cases y <;> simp [alikeB, Tr.alike]
/-- A slice of two trees that was made: a node. -/
theorem two_in {P Q : Nat → Prop} {W : World} {x y : Tr} {n o1 o2 : Int} {A1 A2 : Option Addr} {n1 n2 c1 c2 g : Nat} (hg : W.heap[g]? = some (.cells #[.int .i64 o1, .slice A1 n1 c1, .int .i64 o2, .slice A2 n2 c2] 27 (0, 0))) (hx : InP P W x (tv o1 A1 n1 c1)) (hy : InP P W y (tv o2 A2 n2 c2)) (hQ : ∀ b, P b → Q b) (hq : Q g) :
    InP Q W (.node n x y) (tv n (some ⟨g, 0, none⟩) 2 2) := by
  refine ⟨g, 0, 2, rfl, hq, ⟨o1, A1, n1, c1, ?_, ?_, hx.more hQ⟩, ⟨o2, A2, n2, c2, ?_, ?_, hy.more hQ⟩⟩
  · rw [cell_of_row W g 0 _ 27 (0, 0) hg]; rfl
  · rw [cell_of_row W g 1 _ 27 (0, 0) hg]; rfl
  · rw [cell_of_row W g 2 _ 27 (0, 0) hg]; rfl
  · rw [cell_of_row W g 3 _ 27 (0, 0) hg]; rfl

set_option maxRecDepth 100000 in
set_option maxHeartbeats 1600000 in
theorem raise_any {P : Nat → Prop} (n : Int) (x y : Tr) (u v : Value) (w : World) (hx : InP P w x u) (hy : InP P w y v) (hn : 0 ≤ n) (hx0 : 0 ≤ x.N) (hx1 : x.N ≤ 4611686018427387904) (hy0 : 0 ≤ y.N) (hy1 : y.N ≤ 4611686018427387904) (hs : n + min x.N y.N ≤ 4611686018427387904) :
    Calls Tryz.prog 124 #[.int .i64 n, u, v] w fun e w' => ∃ v', e = .returned v' ∧ InP (fun b => P b ∨ New w w' b) w' (Tr.raise n x y) v' ∧ Below w.heap.size w w' := by
  obtain ⟨A1, n1, c1, rfl⟩ := hx.form
  obtain ⟨A2, n2, c2, rfl⟩ := hy.form
  have HA := Lib.hid (alike_in hx hy)
  have HRT : Hid (Tr.alike x y = true → Tr.raise n x y = .leaf (n + x.N)) := fun h => if_pos h
  have HRF : Hid (Tr.alike x y = false → Tr.raise n x y = .node (n + min x.N y.N) (x.add (-(min x.N y.N))) (y.add (-(min x.N y.N)))) := fun h => if_neg (by rw [h]; decide)
  have HXX := Lib.hid hx
  have HYY := Lib.hid hy
  have HEQ : Hid (Tr.alike x y = true → x.N = y.N) := by
    intro h
    cases x with
    | leaf p => cases y with
      | leaf q => simpa [Tr.alike, Tr.N] using h
      | node _ _ _ => simp [Tr.alike] at h
    | node _ _ _ => simp [Tr.alike] at h
  clear hx hy
  generalize x.N = o1 at *
  generalize y.N = o2 at *
  have HX := Lib.hid ((((XS.begin w).boxed (.int .i64 o1) (.slice A1 n1 c1) 27).boxed (.int .i64 o2) (.slice A2 n2 c2) 27).fresh (.int .i64 0) (.slice none 0 0) 27)
  simp only [List.nil_append, List.cons_append, World.size_alloc] at HX
  have hc := alike_any o1 A1 n1 c1 o2 A2 n2 c2 (((w.alloc (.cells #[.int .i64 o1, .slice A1 n1 c1] 27)).alloc (.cells #[.int .i64 o2, .slice A2 n2 c2] 27)).alloc (.cells #[.int .i64 0, .slice none 0 0] 27))
  rw [HA.out] at hc
  obtain ⟨b, hb⟩ : ∃ b, Tr.alike x y = b := ⟨_, rfl⟩
  rw [hb] at hc HRT HRF HEQ
  have hmn : (if o2 < o1 then o2 else o1) = min o1 o2 := by omega
  obtain ⟨m, hm⟩ : ∃ m, min o1 o2 = m := ⟨_, rfl⟩
  have hm1 : m ≤ o1 := by omega
  have hm2 : m ≤ o2 := by omega
  have hm0 : 0 ≤ m := by omega
  have HMX : Hid (b = true → m = o1) := fun h => by have := HEQ.out h; omega
  rw [hm] at hmn HRF hs
  clear hb HA hm HEQ
  unfold tv at *
  go_enter Tryz.func124, Tryz.ntmps124
  go_wp2_with fail
  refine hc.mono ?_
  rintro e w1 ⟨rfl, hb1⟩
  have HX1 := Lib.hid (HX.out.next hb1)
  have f := HX1.out.at0
  simp only [List.mem_cons, List.not_mem_nil, or_false, forall_eq_or_imp, forall_eq] at f
  obtain ⟨p0, p1, p2, p3⟩ := f
  obtain ⟨u0, u1, ⟨c0, c1'⟩, f0, f1⟩ := HX1.out.facts (w.heap.size + 1 + 1) (by simp)
  clear hb1 hc HX
  cases b with
  | true =>
    have hmx := HMX.out rfl
    subst hmx
    have HFIN : Hid (∀ u1 u2, InP (fun _ => False) ((w1.setCell ⟨w.heap.size + 1 + 1, 0, none⟩ u1).setCell ⟨w.heap.size + 1 + 1, 1, none⟩ u2) (.leaf (n + m)) (tv (n + m) none 0 0) ∧ Below w.heap.size w ((w1.setCell ⟨w.heap.size + 1 + 1, 0, none⟩ u1).setCell ⟨w.heap.size + 1 + 1, 1, none⟩ u2)) := fun u1 u2 => HX1.out.fin (P := fun _ => False) (t := .leaf (n + m)) (x := tv (n + m) none 0 0) _ (by simp) ⟨none, 0, rfl⟩ _ _
    clear HX1 hmn
    go_wp2
    refine bodyPost_ret (v := tv (n + m) none 0 0) (by simp [results, Tryz.f124, go_sem, tv, c0, c1']) rfl ?_
    refine ⟨_, rfl, ?_, (HFIN.out _ _).2⟩
    rw [HRT.out (by simp)]
    exact (HFIN.out _ _).1.more fun _ h => h.elim
  | false =>
    obtain ⟨v0, v1, ⟨d0, d1⟩, g0, g1⟩ := HX1.out.facts w.heap.size (by simp)
    obtain ⟨v2, v3, ⟨d2, d3⟩, g2, g3⟩ := HX1.out.facts (w.heap.size + 1) (by simp)
    obtain ⟨W1, hW1⟩ : ∃ W1, w1.setCell ⟨w.heap.size, 0, none⟩ (.int .i64 (o1 - m)) = W1 := ⟨_, rfl⟩
    obtain ⟨W2, hW2⟩ : ∃ W2, W1.setCell ⟨w.heap.size + 1, 0, none⟩ (.int .i64 (o2 - m)) = W2 := ⟨_, rfl⟩
    have HXA : XS w [(w.heap.size, 1, .slice A1 n1 c1), (w.heap.size + 1, 0, .int .i64 o2), (w.heap.size + 1, 1, .slice A2 n2 c2)] [w.heap.size, w.heap.size + 1, w.heap.size + 1 + 1] W1 := by
      rw [← hW1]
      exact (HX1.out.sub (by simp) (by simp)).store w.heap.size 0 _ (by simp) (by simp)
    have HXB : XS w [(w.heap.size, 1, .slice A1 n1 c1), (w.heap.size + 1, 1, .slice A2 n2 c2)] [w.heap.size, w.heap.size + 1, w.heap.size + 1 + 1] W2 := by
      rw [← hW2]
      exact (HXA.sub (by simp) (by simp)).store (w.heap.size + 1) 0 _ (by simp) (by simp)
    have q0 : W2.cell? ⟨w.heap.size, 0, none⟩ = some (.int .i64 (o1 - m)) := by
      rw [← hW2, ← hW1]
      refine (World.cell?_setCell_other _ _ _ _ (fun e => by injection e; omega)).trans ?_
      simp [go_sem, d0]
    have q1 := HXB.get (g := w.heap.size) (i := 1) (v := .slice A1 n1 c1) (by simp)
    have q2 : W2.cell? ⟨w.heap.size + 1, 0, none⟩ = some (.int .i64 (o2 - m)) := by
      rw [← hW2]
      have := HXA.get (g := w.heap.size + 1) (i := 0) (v := .int .i64 o2) (by simp)
      simp [go_sem, this]
    have q3 := HXB.get (g := w.heap.size + 1) (i := 1) (v := .slice A2 n2 c2) (by simp)
    have a2 := HXA.get (g := w.heap.size + 1) (i := 0) (v := .int .i64 o2) (by simp)
    obtain ⟨_, _, ⟨e2, e3⟩, a0, a1⟩ := HXA.facts (w.heap.size + 1) (by simp)
    have HB2 := Lib.hid HXB
    obtain ⟨t0, t1, ⟨k0, k1⟩, k2, k3⟩ := HXB.facts (w.heap.size + 1 + 1) (by simp)
    have hsz : w.heap.size + 1 + 1 < W2.heap.size := World.block_lt_of_cell? W2 _ k0
    have HSZ := Lib.hid hsz
    have hW2s : W2.heap.size = w1.heap.size := by rw [← hW2, ← hW1]; simp
    obtain ⟨W3, hW3⟩ : ∃ W3, (W2.setCell ⟨w.heap.size + 1 + 1, 0, none⟩ (.int .i64 (n + m))).setCell ⟨w.heap.size + 1 + 1, 1, none⟩ (.slice (some ⟨w1.heap.size, 0, none⟩) 2 2) = W3 := ⟨_, rfl⟩
    have HXC : XS w [(w.heap.size, 1, .slice A1 n1 c1), (w.heap.size + 1, 1, .slice A2 n2 c2)] [w.heap.size, w.heap.size + 1, w.heap.size + 1 + 1] W3 := by
      rw [← hW3]
      exact ((HXB.store (w.heap.size + 1 + 1) 0 _ (by simp) (by simp <;> omega)).store (w.heap.size + 1 + 1) 1 _ (by simp) (by simp <;> omega))
    have hW3s : W3.heap.size = w1.heap.size := by rw [← hW3]; simp [hW2s]
    have r0 : W3.cell? ⟨w.heap.size + 1 + 1, 0, none⟩ = some (.int .i64 (n + m)) := by
      rw [← hW3]
      refine (World.cell?_setCell_other _ _ _ _ (fun e => by injection e; omega)).trans ?_
      simp [go_sem, k0]
    have r1 : W3.cell? ⟨w.heap.size + 1 + 1, 1, none⟩ = some (.slice (some ⟨w1.heap.size, 0, none⟩) 2 2) := by
      rw [← hW3]
      simp [go_sem, k1]
    obtain ⟨W4, hW4⟩ : ∃ W4, W3.alloc (.cells #[.int .i64 (o1 - m), .slice A1 n1 c1, .int .i64 (o2 - m), .slice A2 n2 c2] 27) = W4 := ⟨_, rfl⟩
    have s0 : W4.cell? ⟨w.heap.size + 1 + 1, 0, none⟩ = some (.int .i64 (n + m)) := by
      rw [← hW4]
      exact (((Below.refl _ W3).alloc (Nat.le_refl _) _).cell (World.block_lt_of_cell? W3 _ r0)).trans r0
    have s1 : W4.cell? ⟨w.heap.size + 1 + 1, 1, none⟩ = some (.slice (some ⟨w1.heap.size, 0, none⟩) 2 2) := by
      rw [← hW4]
      exact (((Below.refl _ W3).alloc (Nat.le_refl _) _).cell (World.block_lt_of_cell? W3 _ r1)).trans r1
    have HFIN : Hid (InP (fun b => P b ∨ New w W4 b) W4 (.node (n + m) (x.add (-m)) (y.add (-m))) (tv (n + m) (some ⟨w1.heap.size, 0, none⟩) 2 2) ∧ Below w.heap.size w W4) := by
      have hx3 := HXC.alloc (.cells #[.int .i64 (o1 - m), .slice A1 n1 c1, .int .i64 (o2 - m), .slice A2 n2 c2] 27)
      rw [hW4] at hx3
      have hxx := ((HXX.out.root (-m)).stay hx3.bel)
      have hyy := ((HYY.out.root (-m)).stay hx3.bel)
      have hnew := heap_alloc_new W3 (.cells #[.int .i64 (o1 - m), .slice A1 n1 c1, .int .i64 (o2 - m), .slice A2 n2 c2] 27)
      rw [hW4, hW3s] at hnew
      refine ⟨two_in (P := P) hnew hxx hyy (fun b hb => .inl hb) (.inr ⟨?_, ?_⟩), hx3.bel⟩
      · rw [← hW3s]; exact HXC.bel.size
      · rw [← hW4]; simp [hW3s]
    have HSS := Lib.hid (And.intro s0 s1)
    clear s0 s1 r0 r1 hW2s HXC hW3s
    have HW4 := Lib.hid hW4
    have HW3 := Lib.hid hW3
    clear hW4 hW3
    subst hW2
    subst hW1
    clear HXB hsz HX1 HXA
    have hsz1 : w.heap.size + 1 + 1 < w1.heap.size := World.block_lt_of_cell? w1 _ c0
    go_wp2
    rw [HW3.out, HW4.out]
    obtain ⟨s0, s1⟩ := HSS.out
    refine bodyPost_ret (v := tv (n + m) (some ⟨w1.heap.size, 0, none⟩) 2 2) (by simp [results, Tryz.f124, go_sem, tv, s0, s1]) rfl ?_
    refine ⟨_, rfl, ?_, HFIN.out.2⟩
    rw [HRF.out (by simp)]
    exact HFIN.out.1
end Go.Proofs.YtoaglkjpjolacaaGreatDoor.E
namespace Go.Proofs.YtoaglkjpjolacaaGreatDoor.E
open Go.RowKit Go.Shelf
attribute [local go_sem] Oper.semAt_some

theorem scope_wide {n : Nat} {P : Program} {c : Code} {Q : Exit → Act → World → Prop} {a : Act} {w : World} (h : c.wpIn Fence.wide n P (Exit.noGoto Q) a w) : (Code.scope c).wpIn Fence.wide n P Q a w := wpIn_wide.2 (wp_scope_straight (wpIn_wide.1 h))
theorem boxed_below {W W' : World} {B N : Nat} {t : TypeId} {v : Value} (h : Boxed W B t v) (hb : Below N W W') (hg : B < N) : Boxed W' B t v := (hb.block B hg).trans h

set_option maxRecDepth 100000 in
set_option maxHeartbeats 4000000 in
theorem right_walk (o : Int) (ks : Fo) (A : Option Addr) (c : Nat) (w : World) (hk : Kd (Lt w.heap.size) w ks A) :
    Calls Tryz.prog 60 #[tv o A ks.len c] w fun e w' => e = .returned (.bool (okL (walkT o ks 0 0))) ∧ Below w.heap.size w w' := by
  refine (callsIn_wide (n := 3)).1 ?_
  unfold tv
  refine callsIn_of_wp_marks Tryz.func60 rfl trivial ?_ rfl
  simp only [Tryz.ntmps60, List.size_toArray, List.length_cons, List.length_nil, Nat.reduceAdd, Nat.reduceSub, Array.replicate_succ, Array.replicate_zero, List.push_toArray, List.append_toArray, List.nil_append, List.cons_append]
  have HK := Lib.hid hk
  clear hk
  gi_wp2
  refine scope_wide ?_
  gi_wp2
  refine wpIn_label ?_
  gi_wp2_with (refine ⟨trivial, ?_⟩; gi_at_call 96; refine (nodes_in _ o A ks.len c _ _ _).mono ?_; rintro e w' ⟨rfl, rfl⟩)
  obtain ⟨W0, hW0⟩ : ∃ W0, ((((w.alloc (.cells #[.int .i64 o, .slice A ks.len c] 27)).alloc (.cells #[.int .i64 0] 3)).alloc (.cells #[.bool true] 4)).alloc (.cells #[.int .i64 o, .slice A ks.len c] 27)).alloc (.cells #[.int .i64 0, .int .i64 0] 112) = W0 := ⟨_, rfl⟩
  have hs0 : W0.heap.size = w.heap.size + 5 := by rw [← hW0]; simp
  have hb0 : Below w.heap.size w W0 := by rw [← hW0]; exact (four_boxes w _ _ _ _).alloc (by simp; omega) _
  have a0 : W0.cell? ⟨w.heap.size + 3, 0, none⟩ = some (.int .i64 o) := by rw [← hW0]; simp [go_sem]
  have a1 : W0.cell? ⟨w.heap.size + 3, 1, none⟩ = some (.slice A ks.len c) := by rw [← hW0]; simp [go_sem]
  have a2 : W0.cell? ⟨w.heap.size + 4, 0, none⟩ = some (.int .i64 0) := by rw [← hW0]; simp [go_sem]
  have a3 : W0.cell? ⟨w.heap.size + 4, 1, none⟩ = some (.int .i64 0) := by rw [← hW0]; simp [go_sem]
  have bc : Boxed W0 (w.heap.size + 1) 3 (.int .i64 0) := by
    rw [← hW0]
    have := Boxed.new (w.alloc (.cells #[.int .i64 o, .slice A ks.len c] 27)) 3 (.int .i64 0)
    rw [World.size_alloc] at this
    exact ((this.alloc _).alloc _).alloc _
  have br : Boxed W0 (w.heap.size + 2) 4 (.bool true) := by
    rw [← hW0]
    have := Boxed.new ((w.alloc (.cells #[.int .i64 o, .slice A ks.len c] 27)).alloc (.cells #[.int .i64 0] 3)) 4 (.bool true)
    simp only [World.size_alloc] at this
    exact (this.alloc _).alloc _
  simp only [Nat.add_assoc, Nat.reduceAdd]
  rw [hW0]
  have hseq := nodes_seq (Lt w.heap.size) (ks.size + 1) o ks A c 0 0 (w.heap.size + 3) (w.heap.size + 4) (fun k => k = w.heap.size + 1 ∨ k = w.heap.size + 2) (fun _ _ => True) (fun x => x.n = 0 ∨ x.n = 2) W0 (Nat.lt_succ_self _) (fun _ h => h) (fun _ _ _ => trivial)
    (HK.out.below hb0) (fun b hb => by have : b < w.heap.size := hb; omega) (by omega) (by omega) a0 a1 a2 a3 (by omega) (by omega) (fun k h => ⟨fun hp => by have : k < w.heap.size := hp; omega, by omega⟩)
  clear a0 a1 a2 a3 hW0 HK
  refine range_own (gf := 145) (lb := #[.pointer (some ⟨w.heap.size + 3, 0, none⟩), .pointer (some ⟨w.heap.size + 4, 0, none⟩)]) rfl (enters_of Tryz.func145 (by kernel_rfl) rfl) hseq (fun k h => by omega) (Below.refl _ _) (fun _ => rfl)
    (fun q V => Boxed V (w.heap.size + 1) 3 (.int .i64 (q.length : Int)) ∧ Boxed V (w.heap.size + 2) 4 (.bool true) ∧ Below w.heap.size w V ∧ okL (q.map It.key) = true)
    (fun cd q V => cd = .exit 0 ∧ Boxed V (w.heap.size + 2) 4 (.bool false) ∧ Below w.heap.size w V ∧ okL (q.map It.key) = false)
    (OwnFrom.and ((boxed_own _ _ (fun q : List It => .int .i64 (q.length : Int))).from _) (OwnFrom.and ((boxed_own _ _ _).from _) (OwnFrom.and (ownFrom_below (Nat.le_refl _) (by omega)) (ownFrom_pure _ _))))
    (fun cd => OwnFrom.and (ownFrom_pure _ _) (OwnFrom.and ((boxed_own _ _ _).from _) (OwnFrom.and (ownFrom_below (Nat.le_refl _) (by omega)) (ownFrom_pure _ _))))
    ⟨bc, br, hb0, rfl⟩
    (fun x a' V => ∃ Bx By, w.heap.size + 2 < Bx ∧ w.heap.size + 2 < By ∧ V.cell? ⟨Bx, 0, none⟩ = some (.int .i64 x.o) ∧ V.cell? ⟨Bx, 1, none⟩ = some (.slice x.A x.n x.c) ∧ V.cell? ⟨By, 0, none⟩ = some (.int .i64 x.d) ∧ V.cell? ⟨By, 1, none⟩ = some (.int .i64 x.s) ∧ a' = { tmps := #[.agg #[.int .i64 o, .slice A ks.len c], .pointer (some ⟨w.heap.size, 0, none⟩), .bool false, .pointer (some ⟨w.heap.size + 1, 0, none⟩), .pointer (some ⟨w.heap.size + 2, 0, none⟩), .pointer (some ⟨Bx, 0, none⟩), .pointer (some ⟨By, 0, none⟩), .agg #[.int .i64 o, .slice A ks.len c], .agg #[.int .i64 0, .int .i64 0], .func (.func 145) #[] #[.pointer (some ⟨w.heap.size + 3, 0, none⟩), .pointer (some ⟨w.heap.size + 4, 0, none⟩)], tv x.o x.A x.n x.c, .agg #[.int .i64 x.d, .int .i64 x.s], undef, undef, undef, undef, undef, undef, undef, undef, undef, undef, undef, undef, undef, undef], defers := [] })
    (fun x a' _ V V' row hs hg hr => by
      obtain ⟨Bx, By, hx, hy, b0, b1, b2, b3, e⟩ := hs
      exact ⟨Bx, By, hx, hy, cell_kept b0 hg (fun r e => (hr r e).2), cell_kept b1 hg (fun r e => (hr r e).2), cell_kept b2 hg (fun r e => (hr r e).2), cell_kept b3 hg (fun r e => (hr r e).2), e⟩) ?assign ?body ?done ?stop
  case assign =>
    rintro l' q x V K hsv ⟨h1, h2, h3, h4⟩ hK
    unfold It.enc tv
    gi_wp2
    exact hK _ _ (((Kept.refl _ V).alloc _).alloc _) ⟨(h1.alloc _).alloc _, (h2.alloc _).alloc _, (h3.alloc h3.size _).alloc (by simp; have := h3.size; omega) _, h4⟩ ⟨V.heap.size, V.heap.size + 1, h2.lt, by have := h2.lt; omega, by simp [go_sem], by simp [go_sem], by simp [go_sem], by simp [go_sem], rfl⟩
  case body =>
    rintro l' q x a' V hsv ⟨h1, h2, h3, h4⟩ ⟨Bx, By, hBx, hBy, b0, b1, b2, b3, rfl⟩ _
    have hq : q.length ≤ 2047 := by
      unfold okL at h4
      have := (Bool.and_eq_true_iff.1 h4).2
      have := of_decide_eq_true this
      simpa using this
    have hc := h1.cell
    have hf := h1.frozen
    have HG : Hid (okL ((q ++ [x]).map It.key) = (okN x.o x.n && (fitsB x.o x.d x.s && decide (q.length + 1 ≤ 2047)))) := by
      show _ = _
      unfold okL at h4 ⊢
      rw [List.map_append, List.all_append, (Bool.and_eq_true_iff.1 h4).1]
      simp [goodK, It.key, Bool.and_assoc]
    obtain ⟨V1, hV1⟩ : ∃ V1, V.setCell ⟨w.heap.size + 1, 0, none⟩ (.int .i64 ((q.length : Int) + 1)) = V1 := ⟨_, rfl⟩
    have e1 : Boxed V1 (w.heap.size + 1) 3 (.int .i64 ((q.length : Int) + 1)) := by rw [← hV1]; exact h1.set _
    have e2 : Boxed V1 (w.heap.size + 2) 4 (.bool true) := by rw [← hV1]; exact h2.other (by omega) _
    have e3 : Below w.heap.size w V1 := by rw [← hV1]; exact h3.setCell (p := ⟨w.heap.size + 1, 0, none⟩) (by show w.heap.size ≤ w.heap.size + 1; omega) _
    have oth : ∀ {b i : Nat} {v : Value}, w.heap.size + 2 < b → V.cell? ⟨b, i, none⟩ = some v → V1.cell? ⟨b, i, none⟩ = some v := fun {b i v} hb hc => by rw [← hV1]; exact (World.cell?_setCell_other _ _ _ _ (fun e => by injection e; omega)).trans hc
    have e4 := oth hBx b0
    have e5 := oth hBx b1
    have e6 := oth hBy b2
    have e7 := oth hBy b3
    clear oth
    have ek : Kept (fun k => k = w.heap.size + 1 ∨ k = w.heap.size + 2) V V1 := by rw [← hV1]; exact (Kept.refl _ V).setCell (p := ⟨w.heap.size + 1, 0, none⟩) (.inl rfl) _
    have hcall := (callsIn_wide (n := 2)).2 (rightNode_any x.o x.A x.n x.c V1)
    have hcall2 := fun W => (callsIn_wide (n := 2)).2 (fits_any x.o x.d x.s W)
    unfold tv at hcall ⊢
    have hq2 : (q.length : Int) ≤ 2047 := by omega
    have HE := Lib.hid hV1
    clear hV1 hseq bc br
    by_cases h_a : okN x.o x.n = true
    · rw [h_a] at hcall HG
      have h_a2 : x.n = 0 ∨ x.n = 2 := by
        unfold okN at h_a
        simp at h_a
        omega
      clear h_a
      gi_wp2_with fail
      refine ⟨trivial, ?_⟩
      rw [HE.out]
      refine (CallsIn.inRound l' hcall).mono ?_
      rintro e V2 ⟨rfl, hb2⟩
      have g1 := boxed_below e1 hb2 e1.lt
      have g4 := boxed_below e2 hb2 e2.lt
      have g5 := ek.trans (Kept.below hb2 (Nat.le_refl _))
      have g7 := e3.trans (hb2.mono e3.size)
      have r0 := (hb2.cell (World.block_lt_of_cell? V1 _ e4)).trans e4
      have r1 := (hb2.cell (World.block_lt_of_cell? V1 _ e5)).trans e5
      have r2 := (hb2.cell (World.block_lt_of_cell? V1 _ e6)).trans e6
      have r3 := (hb2.cell (World.block_lt_of_cell? V1 _ e7)).trans e7
      have hcl := hcall2 V2
      clear hcall hcall2 hc hf b0 b1 b2 b3 hb2 e1 e2 e3 e4 e5 e6 e7 ek h1 h2 h3
      obtain ⟨bf, hbf⟩ : ∃ bf, fitsB x.o x.d x.s = bf := ⟨_, rfl⟩
      rw [hbf] at hcl HG
      clear hbf
      gi_wp2_with fail
      refine ⟨trivial, ?_⟩
      refine (CallsIn.inRound l' hcl).mono ?_
      rintro e V3 ⟨rfl, hb3⟩
      have k1 := boxed_below g1 hb3 g1.lt
      have k4 := boxed_below g4 hb3 g4.lt
      have k5 := g5.trans (Kept.below hb3 (Nat.le_refl _))
      have k7 := g7.trans (hb3.mono g7.size)
      have f1 := k1.cell
      have f2 := k4.cell
      have f3 := k4.frozen
      clear hcl r0 r1 r2 r3 hb3 g1 g4 g5 g7
      cases bf with
      | true =>
        by_cases h_n : q.length + 1 ≤ 2047
        · rw [decide_eq_true h_n] at HG
          have h_n2 : ¬ (2047 : Int) < (q.length : Int) + 1 := by omega
          clear h_n
          gi_wp2
          exact ⟨k5, h_a2, by rw [List.length_append]; exact k1, k4, k7, by rw [HG.out]; rfl⟩
        · rw [decide_eq_false h_n] at HG
          have h_n2 : (2047 : Int) < (q.length : Int) + 1 := by omega
          clear h_n
          gi_wp2
          exact ⟨k5.setCell (p := ⟨w.heap.size + 2, 0, none⟩) (.inr rfl) _, rfl, k4.set _, k7.setCell (p := ⟨w.heap.size + 2, 0, none⟩) (by show w.heap.size ≤ w.heap.size + 2; omega) _, by rw [HG.out]; rfl⟩
      | false =>
        gi_wp2
        exact ⟨k5.setCell (p := ⟨w.heap.size + 2, 0, none⟩) (.inr rfl) _, rfl, k4.set _, k7.setCell (p := ⟨w.heap.size + 2, 0, none⟩) (by show w.heap.size ≤ w.heap.size + 2; omega) _, by rw [HG.out]; rfl⟩
    · have h_a2 : okN x.o x.n = false := by simpa using h_a
      rw [h_a2] at hcall HG
      clear h_a h_a2 hcall2
      gi_wp2_with fail
      refine ⟨trivial, ?_⟩
      rw [HE.out]
      refine (CallsIn.inRound l' hcall).mono ?_
      rintro e V2 ⟨rfl, hb2⟩
      have g4 := boxed_below e2 hb2 e2.lt
      have g5 := ek.trans (Kept.below hb2 (Nat.le_refl _))
      have g7 := e3.trans (hb2.mono e3.size)
      have f2 := g4.cell
      have f3 := g4.frozen
      clear hcall hc hf b0 b1 b2 b3 hb2 e1 e2 e3 e4 e5 e6 e7 ek h1 h2 h3
      gi_wp2
      exact ⟨g5.setCell (p := ⟨w.heap.size + 2, 0, none⟩) (.inr rfl) _, rfl, g4.set _, g7.setCell (p := ⟨w.heap.size + 2, 0, none⟩) (by show w.heap.size ≤ w.heap.size + 2; omega) _, by rw [HG.out]; rfl⟩
  case done =>
    rintro D xs V hD hxs ⟨h1, h2, h3, h4⟩ hdf
    have c2 := h2.cell
    rw [hxs] at h4
    clear hseq bc br
    have HB : Hid (∀ o', Below w.heap.size w (V.putObj D o')) := fun o' => h3.trans (belowK_b (w := w) (Nat.le_refl _) V D _ _ (by omega) hdf rfl rfl)
    gi_wp2
    refine ⟨by simp, .inl ⟨_, _, rfl, run_takeDeferred hdf, ?_⟩⟩
    exact ⟨_, results_tmp rfl _ _ _, by rw [h4]; rfl, HB.out _⟩
  case stop =>
    rintro D cd q V hD hq ⟨rfl, h2, h3, h4⟩ hdf
    have c2 := h2.cell
    have HF : Hid (okL (walkT o ks 0 0) = false) := by
      show _ = _
      obtain ⟨r, hr⟩ := hq
      unfold okL at h4 ⊢
      rw [← hr, List.all_append, List.length_append]
      cases hh : (List.map It.key q).all goodK with
      | false => simp
      | true =>
        rw [hh] at h4
        have : ¬ (List.map It.key q).length ≤ 2047 := by simpa using h4
        rw [decide_eq_false (by omega : ¬ (List.map It.key q).length + r.length ≤ 2047), Bool.and_false]
    clear hseq bc br
    have HB : Hid (∀ o', Below w.heap.size w (V.putObj D o')) := fun o' => h3.trans (belowK_b (w := w) (Nat.le_refl _) V D _ _ (by omega) hdf rfl rfl)
    clear h4 hq
    gi_wp2
    refine ⟨by simp, .inl ⟨_, _, rfl, run_takeDeferred hdf, ?_⟩⟩
    exact ⟨_, results_tmp rfl _ _ _, by rw [HF.out]; rfl, HB.out _⟩
theorem right_any (o : Int) (ks : Fo) (A : Option Addr) (c : Nat) (w : World) (hk : Kd (Lt w.heap.size) w ks A) :
    Calls Tryz.prog 60 #[tv o A ks.len c] w fun e w' => e = .returned (.bool (treeOf o ks).isSome) ∧ Below w.heap.size w w' := by
  rw [← okL_tree]; exact right_walk o ks A c w hk
theorem right_arg {w : World} {T : Option Tr} {v : Value} (h : Arg w T v) : Calls Tryz.prog 60 #[v] w fun e w' => e = .returned (.bool T.isSome) ∧ Below w.heap.size w w' := by
  obtain ⟨o, ks, A, c, rfl, hk, rfl⟩ := h
  exact right_any o ks A c w hk
end Go.Proofs.YtoaglkjpjolacaaGreatDoor.E
namespace Go.Proofs.YtoaglkjpjolacaaGreatDoor.E
open Go.RowKit Go.Shelf
attribute [local go_sem] Oper.semAt_some

def stLo (a : Int) (k : Key) : Int := if k.2.1 = 0 then (if wrap64 (k.2.2.2 + k.1) < a then wrap64 (k.2.2.2 + k.1) else a) else a
def stHi (a : Int) (k : Key) : Int := if k.2.1 = 0 then (if a < wrap64 (k.2.2.2 + k.1) then wrap64 (k.2.2.2 + k.1) else a) else a
theorem walkK_ends : ∀ (f : Fo) (ts : List Tr) (d s : Int), trees f = some ts → 0 ≤ s → s ≤ mc → (∀ t ∈ ts, t.okc (mc - s) = true) → ∀ a b, (walkK f d s).foldl stLo a = ts.foldl (fun a t => min a (s + low t)) a ∧ (walkK f d s).foldl stHi b = ts.foldl (fun a t => max a (s + high t)) b
  | .nil, ts, d, s, h, _, _, _, a, b => by simp [trees] at h; subst h; exact ⟨rfl, rfl⟩
  | .cons n ks rest, ts, d, s, h, h0, h1, hok, a, b => by
    have hm : mc = 4611686018427387904 := rfl
    simp only [trees] at h
    obtain ⟨k, hk, h⟩ := Option.bind_eq_some_iff.1 h
    obtain ⟨t, ht, h⟩ := Option.bind_eq_some_iff.1 h
    obtain ⟨r, hr, rfl⟩ := Option.map_eq_some_iff.1 h
    have hl := trees_len ks k hk
    have htok := hok t List.mem_cons_self
    have ihr := walkK_ends rest r d s hr h0 h1 fun t ht => hok t (List.mem_cons_of_mem _ ht)
    rw [walkK_cons, walkT]
    simp only [List.cons_append, List.foldl_cons, List.foldl_append]
    match k, ht with
    | [], ht =>
      simp only [one, Option.some.injEq] at ht
      subst ht
      have hn := okc_N _ _ htok
      simp only [Tr.N] at hn
      have e0 : ks.len = 0 := hl.symm
      have ek : ks = .nil := by cases ks with | nil => rfl | cons _ _ _ => simp [Fo.len] at e0
      subst ek
      have hw : wrap64 (s + n) = s + n := wrap64_id (by omega) (by omega)
      simp only [walkK, List.foldl_nil]
      have e1 : stLo a (n, Fo.nil.len, d, s) = min a (s + low (.leaf n)) := by
        simp only [stLo, Fo.len, if_true, hw, low]; omega
      have e2 : stHi b (n, Fo.nil.len, d, s) = max b (s + high (.leaf n)) := by
        simp only [stHi, Fo.len, if_true, hw, high]; omega
      rw [e1, e2]
      exact ihr _ _
    | [x, y], ht =>
      simp only [one, Option.some.injEq] at ht
      subst ht
      have hn := okc_N _ _ htok
      simp only [Tr.N] at hn
      simp only [Tr.okc, Bool.and_eq_true_iff, decide_eq_true_eq] at htok
      have e0 : ks.len = 2 := hl.symm
      have hw : wrap64 (s + n) = s + n := wrap64_id (by omega) (by omega)
      have ihk := walkK_ends ks [x, y] (wrap64 (d + 1)) (s + n) hk (by omega) (by omega) (by
        rw [show mc - (s + n) = mc - s - n by omega]
        simp only [List.mem_cons, List.not_mem_nil, or_false, forall_eq_or_imp, forall_eq]
        exact htok.2) a b
      have e1 : stLo a (n, ks.len, d, s) = a := if_neg (by simp [e0])
      have e2 : stHi b (n, ks.len, d, s) = b := if_neg (by simp [e0])
      rw [e1, e2, hw, ihk.1, ihk.2]
      simp only [List.foldl_cons, List.foldl_nil]
      have e3 : min (min a (s + n + low x)) (s + n + low y) = min a (s + low (.node n x y)) := by simp only [low]; omega
      have e4 : max (max b (s + n + high x)) (s + n + high y) = max b (s + high (.node n x y)) := by simp only [high]; omega
      rw [e3, e4]
      exact ihr _ _
    | [_], ht => simp [one] at ht
    | _ :: _ :: _ :: _, ht => simp [one] at ht
theorem walkT_ends {n : Int} {ks : Fo} {t : Tr} (d s : Int) (h : (trees ks).bind (one n) = some t) (h0 : 0 ≤ s) (h1 : s ≤ mc) (hok : t.okc (mc - s) = true) : (walkT n ks d s).foldl stLo mc = s + low t ∧ (walkT n ks d s).foldl stHi 0 = s + high t := by
  obtain ⟨k, hk, ht⟩ := Option.bind_eq_some_iff.1 h
  have := walkK_ends (.cons n ks .nil) [t] d s (by simp [trees, hk, ht]) h0 h1 (by simpa using hok) mc 0
  rw [walkK_cons] at this
  simp only [walkK, List.append_nil, List.foldl_cons, List.foldl_nil] at this
  have a := low_okc hok
  have b := high_okc hok
  omega

set_option maxRecDepth 100000 in
set_option maxHeartbeats 4000000 in
theorem ends_walk (o : Int) (ks : Fo) (A : Option Addr) (c : Nat) (s : Int) (P : Nat → Prop) (w : World) (hk : Kd P w ks A) (hP : ∀ b, P b → b < w.heap.size) (hl : ∀ k ∈ walkT o ks 0 s, k.2.1 = 0 ∨ k.2.1 = 2) :
    Calls Tryz.prog 138 #[tv o A ks.len c, .int .i64 s] w fun e w' => e = .returned (.tuple #[.int .i64 ((walkT o ks 0 s).foldl stLo 4611686018427387904), .int .i64 ((walkT o ks 0 s).foldl stHi 0)]) ∧ Below w.heap.size w w' := by
  refine (callsIn_wide (n := 3)).1 ?_
  unfold tv
  refine callsIn_of_wp_marks Tryz.func138 rfl trivial ?_ rfl
  simp only [Tryz.ntmps138, List.size_toArray, List.length_cons, List.length_nil, Nat.reduceAdd, Nat.reduceSub, Array.replicate_succ, Array.replicate_zero, List.push_toArray, List.append_toArray, List.nil_append, List.cons_append]
  have HK := Lib.hid hk
  have HP := Lib.hid hP
  have HLN := Lib.hid hl
  clear hk hP hl
  gi_wp2_with (refine ⟨trivial, ?_⟩; gi_at_call 96; refine (nodes_in _ o A ks.len c _ _ _).mono ?_; rintro e w' ⟨rfl, rfl⟩)
  obtain ⟨W0, hW0⟩ : ∃ W0, ((((w.alloc (.cells #[.int .i64 o, .slice A ks.len c] 27)).alloc (.cells #[.int .i64 4611686018427387904] 2)).alloc (.cells #[.int .i64 0] 2)).alloc (.cells #[.int .i64 o, .slice A ks.len c] 27)).alloc (.cells #[.int .i64 0, .int .i64 s] 112) = W0 := ⟨_, rfl⟩
  have hs0 : W0.heap.size = w.heap.size + 5 := by rw [← hW0]; simp
  have hb0 : Below w.heap.size w W0 := by rw [← hW0]; exact (four_boxes w _ _ _ _).alloc (by simp; omega) _
  have a0 : W0.cell? ⟨w.heap.size + 3, 0, none⟩ = some (.int .i64 o) := by rw [← hW0]; simp [go_sem]
  have a1 : W0.cell? ⟨w.heap.size + 3, 1, none⟩ = some (.slice A ks.len c) := by rw [← hW0]; simp [go_sem]
  have a2 : W0.cell? ⟨w.heap.size + 4, 0, none⟩ = some (.int .i64 0) := by rw [← hW0]; simp [go_sem]
  have a3 : W0.cell? ⟨w.heap.size + 4, 1, none⟩ = some (.int .i64 s) := by rw [← hW0]; simp [go_sem]
  have bc : Boxed W0 (w.heap.size + 1) 2 (.int .i64 4611686018427387904) := by
    rw [← hW0]
    have := Boxed.new (w.alloc (.cells #[.int .i64 o, .slice A ks.len c] 27)) 2 (.int .i64 4611686018427387904)
    rw [World.size_alloc] at this
    exact ((this.alloc _).alloc _).alloc _
  have br : Boxed W0 (w.heap.size + 2) 2 (.int .i64 0) := by
    rw [← hW0]
    have := Boxed.new ((w.alloc (.cells #[.int .i64 o, .slice A ks.len c] 27)).alloc (.cells #[.int .i64 4611686018427387904] 2)) 2 (.int .i64 0)
    simp only [World.size_alloc] at this
    exact (this.alloc _).alloc _
  simp only [Nat.add_assoc, Nat.reduceAdd]
  rw [hW0]
  have hseq := nodes_seq P (ks.size + 1) o ks A c 0 s (w.heap.size + 3) (w.heap.size + 4) (fun k => k = w.heap.size + 1 ∨ k = w.heap.size + 2) (fun _ x => x.n = 0 ∨ x.n = 2) (fun x => x.n = 0 ∨ x.n = 2) W0 (Nat.lt_succ_self _) (fun _ h => h) (fun pre x hx => HLN.out x.key (by obtain ⟨r, hr⟩ := hx; rw [← hr]; simp))
    (HK.out.keep fun p v hp hc => (hb0.cell (HP.out _ hp)).trans hc) (fun b hb => by have := HP.out b hb; omega) (by omega) (by omega) a0 a1 a2 a3 (by omega) (by omega) (fun k h => ⟨fun hp => by have := HP.out k hp; omega, by omega⟩)
  clear a0 a1 a2 a3 hW0 HK HP HLN
  refine range_own (gf := 145) (lb := #[.pointer (some ⟨w.heap.size + 3, 0, none⟩), .pointer (some ⟨w.heap.size + 4, 0, none⟩)]) rfl (enters_of Tryz.func145 (by kernel_rfl) rfl) hseq (fun k h => by omega) (Below.refl _ _) (fun _ => rfl)
    (fun q V => Boxed V (w.heap.size + 1) 2 (.int .i64 ((q.map It.key).foldl stLo 4611686018427387904)) ∧ Boxed V (w.heap.size + 2) 2 (.int .i64 ((q.map It.key).foldl stHi 0)) ∧ Below w.heap.size w V)
    (fun cd q V => False)
    (OwnFrom.and ((boxed_own _ _ (fun q : List It => .int .i64 ((q.map It.key).foldl stLo 4611686018427387904))).from _) (OwnFrom.and ((boxed_own _ _ (fun q : List It => .int .i64 ((q.map It.key).foldl stHi 0))).from _) (ownFrom_below (Nat.le_refl _) (by omega))))
    (fun cd => ownFrom_pure _ _)
    ⟨bc, br, hb0⟩
    (fun x a' V => ∃ Bx By, w.heap.size + 2 < Bx ∧ w.heap.size + 2 < By ∧ V.cell? ⟨Bx, 0, none⟩ = some (.int .i64 x.o) ∧ V.cell? ⟨Bx, 1, none⟩ = some (.slice x.A x.n x.c) ∧ V.cell? ⟨By, 0, none⟩ = some (.int .i64 x.d) ∧ V.cell? ⟨By, 1, none⟩ = some (.int .i64 x.s) ∧ a' = { tmps := #[.agg #[.int .i64 o, .slice A ks.len c], .int .i64 s, .pointer (some ⟨w.heap.size, 0, none⟩), undef, .int .i64 0, .int .i64 0, .pointer (some ⟨w.heap.size + 1, 0, none⟩), .pointer (some ⟨w.heap.size + 2, 0, none⟩), .pointer (some ⟨Bx, 0, none⟩), .pointer (some ⟨By, 0, none⟩), .agg #[.int .i64 o, .slice A ks.len c], .int .i64 s, .agg #[.int .i64 0, .int .i64 s], .func (.func 145) #[] #[.pointer (some ⟨w.heap.size + 3, 0, none⟩), .pointer (some ⟨w.heap.size + 4, 0, none⟩)], tv x.o x.A x.n x.c, .agg #[.int .i64 x.d, .int .i64 x.s], undef, undef, undef, undef, undef, undef, undef, undef, undef, undef, undef, undef, undef, undef, undef, undef, undef, undef], defers := [] })
    (fun x a' _ V V' row hs hg hr => by
      obtain ⟨Bx, By, hx, hy, b0, b1, b2, b3, e⟩ := hs
      exact ⟨Bx, By, hx, hy, cell_kept b0 hg (fun r e => (hr r e).2), cell_kept b1 hg (fun r e => (hr r e).2), cell_kept b2 hg (fun r e => (hr r e).2), cell_kept b3 hg (fun r e => (hr r e).2), e⟩) ?assign ?body ?done ?stop
  case assign =>
    rintro l' q x V K hsv ⟨h1, h2, h3⟩ hK
    unfold It.enc tv
    gi_wp2
    exact hK _ _ (((Kept.refl _ V).alloc _).alloc _) ⟨(h1.alloc _).alloc _, (h2.alloc _).alloc _, (h3.alloc h3.size _).alloc (by simp; have := h3.size; omega) _⟩ ⟨V.heap.size, V.heap.size + 1, h2.lt, by have := h2.lt; omega, by simp [go_sem], by simp [go_sem], by simp [go_sem], by simp [go_sem], rfl⟩
  case body =>
    rintro l' q x a' V hsv ⟨h1, h2, h3⟩ ⟨Bx, By, hBx, hBy, b0, b1, b2, b3, rfl⟩ hx
    have HLo : Hid (((q ++ [x]).map It.key).foldl stLo 4611686018427387904 = stLo ((q.map It.key).foldl stLo 4611686018427387904) x.key) := by show _ = _; simp
    have HHi : Hid (((q ++ [x]).map It.key).foldl stHi 0 = stHi ((q.map It.key).foldl stHi 0) x.key) := by show _ = _; simp
    obtain ⟨L, hL⟩ : ∃ L, (q.map It.key).foldl stLo 4611686018427387904 = L := ⟨_, rfl⟩
    obtain ⟨M, hM⟩ : ∃ M, (q.map It.key).foldl stHi 0 = M := ⟨_, rfl⟩
    rw [hL] at h1 HLo
    rw [hM] at h2 HHi
    have hcall := (callsIn_wide (n := 2)).2 (pleaf_any x.o x.A x.n x.c V)
    unfold tv at hcall ⊢
    clear hseq bc br hL hM
    gi_wp2_with fail
    refine ⟨trivial, ?_⟩
    refine (CallsIn.inRound l' hcall).mono ?_
    rintro e V2 ⟨rfl, hb2⟩
    have g1 := boxed_below h1 hb2 h1.lt
    have g2 := boxed_below h2 hb2 h2.lt
    have gk : Kept (fun k => k = w.heap.size + 1 ∨ k = w.heap.size + 2) V V2 := Kept.below hb2 (Nat.le_refl _)
    have g3 := h3.trans (hb2.mono h3.size)
    have r0 := (hb2.cell (World.block_lt_of_cell? V _ b0)).trans b0
    have r3 := (hb2.cell (World.block_lt_of_cell? V _ b3)).trans b3
    clear hcall hb2 h1 h2 h3 b0 b1 b2 b3
    have HX := Lib.hid hx
    by_cases h0 : x.n = 0
    · have HLo2 : Hid (((q ++ [x]).map It.key).foldl stLo 4611686018427387904 = if wrap64 (x.s + x.o) < L then wrap64 (x.s + x.o) else L) := HLo.out.trans (if_pos h0)
      have HHi2 : Hid (((q ++ [x]).map It.key).foldl stHi 0 = if M < wrap64 (x.s + x.o) then wrap64 (x.s + x.o) else M) := HHi.out.trans (if_pos h0)
      obtain ⟨z, hz⟩ : ∃ z, wrap64 (x.s + x.o) = z := ⟨_, rfl⟩
      rw [hz] at HLo2 HHi2
      obtain ⟨L2, hL2⟩ : ∃ L2, (if z < L then z else L) = L2 := ⟨_, rfl⟩
      obtain ⟨M2, hM2⟩ : ∃ M2, (if M < z then z else M) = M2 := ⟨_, rfl⟩
      rw [hL2] at HLo2
      rw [hM2] at HHi2
      have h0b : decide (x.n = 0) = true := decide_eq_true h0
      rw [h0b]
      have c1 := g1.cell
      have f1 := g1.frozen
      have c2 := g2.cell
      have f2 := g2.frozen
      obtain ⟨V3, hV3⟩ : ∃ V3, V2.setCell ⟨w.heap.size + 1, 0, none⟩ (.int .i64 L2) = V3 := ⟨_, rfl⟩
      have g1' : Boxed V3 (w.heap.size + 1) 2 (.int .i64 L2) := by rw [← hV3]; exact g1.set _
      have g2' : Boxed V3 (w.heap.size + 2) 2 (.int .i64 M) := by rw [← hV3]; exact g2.other (by omega) _
      have k3 : V3.cell? ⟨By, 1, none⟩ = some (.int .i64 x.s) := by rw [← hV3]; exact (World.cell?_setCell_other _ _ _ _ (fun e => by injection e; omega)).trans r3
      have k0 : V3.cell? ⟨Bx, 0, none⟩ = some (.int .i64 x.o) := by rw [← hV3]; exact (World.cell?_setCell_other _ _ _ _ (fun e => by injection e; omega)).trans r0
      have c2' := g2'.cell
      have f2' := g2'.frozen
      have HG : Hid (Kept (fun k => k = w.heap.size + 1 ∨ k = w.heap.size + 2) V (V3.setCell ⟨w.heap.size + 2, 0, none⟩ (.int .i64 M2)) ∧ Boxed (V3.setCell ⟨w.heap.size + 2, 0, none⟩ (.int .i64 M2)) (w.heap.size + 1) 2 (.int .i64 L2) ∧ Boxed (V3.setCell ⟨w.heap.size + 2, 0, none⟩ (.int .i64 M2)) (w.heap.size + 2) 2 (.int .i64 M2) ∧ Below w.heap.size w (V3.setCell ⟨w.heap.size + 2, 0, none⟩ (.int .i64 M2))) := by
        refine ⟨?_, g1'.other (by omega) _, g2'.set _, ?_⟩
        · rw [← hV3]; exact (gk.setCell (p := ⟨w.heap.size + 1, 0, none⟩) (.inl rfl) _).setCell (p := ⟨w.heap.size + 2, 0, none⟩) (.inr rfl) _
        · rw [← hV3]; exact (g3.setCell (p := ⟨w.heap.size + 1, 0, none⟩) (by show w.heap.size ≤ w.heap.size + 1; omega) _).setCell (p := ⟨w.heap.size + 2, 0, none⟩) (by show w.heap.size ≤ w.heap.size + 2; omega) _
      clear h0 h0b g1 g2 g1' g2' gk g3 HLo HHi
      gi_wp2
      refine ⟨HG.out.1, HX.out, ?_, ?_, HG.out.2.2.2⟩
      · rw [HLo2.out]; exact HG.out.2.1
      · rw [HHi2.out]; exact HG.out.2.2.1
    · have HLo2 : Hid (((q ++ [x]).map It.key).foldl stLo 4611686018427387904 = L) := HLo.out.trans (if_neg h0)
      have HHi2 : Hid (((q ++ [x]).map It.key).foldl stHi 0 = M) := HHi.out.trans (if_neg h0)
      have h0b : decide (x.n = 0) = false := decide_eq_false h0
      rw [h0b]
      clear h0 h0b HLo HHi r0 r3
      gi_wp2
      refine ⟨gk, HX.out, ?_, ?_, g3⟩
      · rw [HLo2.out]; exact g1
      · rw [HHi2.out]; exact g2
  case done =>
    rintro D xs V hD hxs ⟨h1, h2, h3⟩ hdf
    rw [hxs] at h1 h2
    have c1 := h1.cell
    have c2 := h2.cell
    clear hseq bc br hxs
    have HB : Hid (∀ o', Below w.heap.size w (V.putObj D o')) := fun o' => h3.trans (belowK_b (w := w) (Nat.le_refl _) V D _ _ (by omega) hdf rfl rfl)
    obtain ⟨L, hL⟩ : ∃ L, (walkT o ks 0 s).foldl stLo 4611686018427387904 = L := ⟨_, rfl⟩
    obtain ⟨M, hM⟩ : ∃ M, (walkT o ks 0 s).foldl stHi 0 = M := ⟨_, rfl⟩
    rw [hL] at c1
    rw [hM] at c2
    have HL := Lib.hid hL
    have HM := Lib.hid hM
    have H3 := Lib.hid h3
    clear hL hM h1 h2 h3
    gi_wp2
    refine wpIn_wide.2 ?_
    have c1d : V.drew.cell? ⟨w.heap.size + 1, 0, none⟩ = some (.int .i64 L) := c1
    have c2d : V.drew.cell? ⟨w.heap.size + 2, 0, none⟩ = some (.int .i64 M) := c2
    go_quiet (fail)
    have hdf2 : (V.drewN nq).heap[D]? = some (.deferred (some [])) := ((below_drewN (Below.refl V.heap.size V) nq).block D (Array.getElem?_eq_some_iff.1 hdf).1).trans hdf
    have HB2 : Hid (∀ o', Below w.heap.size w ((V.drewN nq).putObj D o')) := fun o' => (below_drewN H3.out nq).trans (belowK_b (w := w) (Nat.le_refl _) (V.drewN nq) D _ _ (by omega) hdf2 rfl rfl)
    clear HB H3 c1 c2 c1d c2d hdf
    generalize V.drewN nq = V5 at *
    gi_wp2
    refine ⟨by simp, .inl ⟨_, _, rfl, run_takeDeferred hdf2, ?_⟩⟩
    refine ⟨_, results_tmp2 rfl _ _ _, ?_, HB2.out _⟩
    rw [HL.out, HM.out]
    rfl
  case stop =>
    rintro D cd q V hD hq h
    exact h.elim
theorem walk_len : ∀ (f : Fo) (ts : List Tr) (d s : Int), trees f = some ts → ∀ k ∈ walkK f d s, k.2.1 = 0 ∨ k.2.1 = 2
  | .nil, _, _, _, _, k, hk => by simp [walkK] at hk
  | .cons n ks rest, ts, d, s, h, k, hk => by
    simp only [trees] at h
    obtain ⟨l, hl, h⟩ := Option.bind_eq_some_iff.1 h
    obtain ⟨t, ht, h⟩ := Option.bind_eq_some_iff.1 h
    obtain ⟨r, hr, rfl⟩ := Option.map_eq_some_iff.1 h
    have hlen := trees_len ks l hl
    simp only [walkK, List.mem_cons, List.mem_append] at hk
    rcases hk with rfl | hk | hk
    · match l, ht with
      | [], _ => exact .inl hlen.symm
      | [_, _], _ => exact .inr hlen.symm
      | [_], ht => simp [one] at ht
      | _ :: _ :: _ :: _, ht => simp [one] at ht
    · exact walk_len ks l _ _ hl k hk
    · exact walk_len rest r _ _ hr k hk
theorem ends_any (t : Tr) (s : Int) (P : Nat → Prop) (v : Value) (w : World) (h : InP P w t v) (h0 : 0 ≤ s) (h1 : s ≤ 4611686018427387904) (hok : t.okc (4611686018427387904 - s) = true) :
    Calls Tryz.prog 138 #[v, .int .i64 s] w fun e w' => e = .returned (.tuple #[.int .i64 (s + low t), .int .i64 (s + high t)]) ∧ Below w.heap.size w w' := by
  have h2 : InP (Lt w.heap.size) w t v := by
    have : ∀ {t : Tr} {v : Value}, InP P w t v → InP (Lt w.heap.size) w t v := by
      intro t
      induction t with
      | leaf n => exact fun h => h
      | node n x y ihx ihy =>
        rintro v ⟨b, off, c, e, hb, ⟨o1, A1, n1, c1, k1, k2, k3⟩, ⟨o2, A2, n2, c2, g1, g2, g3⟩⟩
        exact ⟨b, off, c, e, World.block_lt_of_cell? w _ k1, ⟨o1, A1, n1, c1, k1, k2, ihx k3⟩, ⟨o2, A2, n2, c2, g1, g2, ihy g3⟩⟩
    exact this h
  obtain ⟨ks, A, c, rfl, hk, ht⟩ := unT h2
  have hw := walkT_ends 0 s ht h0 h1 hok
  obtain ⟨l, hl, ho⟩ := Option.bind_eq_some_iff.1 ht
  refine (ends_walk t.N ks A c s (Lt w.heap.size) w hk (fun _ h => h) fun k hk => ?_).mono fun e w' h => ⟨?_, h.2⟩
  · exact walk_len (.cons t.N ks .nil) [t] 0 s (by simp [trees, hl, ho]) k (by rw [walkK_cons]; simp [hk])
  · rw [h.1, ← hw.1, ← hw.2]; rfl
end Go.Proofs.YtoaglkjpjolacaaGreatDoor.E
namespace Go.Proofs.YtoaglkjpjolacaaGreatDoor.E
open Go.RowKit
set_option maxRecDepth 100000 in
set_option maxHeartbeats 3200000 in
theorem norm_any : ∀ (t : Tr) (m : Int) (P : Nat → Prop) (v : Value) (w : World), InP P w t v → t.okc m = true → m ≤ 4611686018427387904 → Calls Tryz.prog 62 #[v] w (Trees t.norm w) := by
  intro t
  induction t with
  | leaf o =>
    rintro m P v w ⟨A, c, rfl⟩ _ _
    have HX := Lib.hid (((XS.begin w).boxed (.int .i64 o) (.slice A 0 c) 27).fresh (.int .i64 0) (.slice none 0 0) 27)
    simp only [List.nil_append, List.cons_append, World.size_alloc] at HX
    have hc := pleaf_any o A 0 c ((w.alloc (.cells #[.int .i64 o, .slice A 0 c] 27)).alloc (.cells #[.int .i64 0, .slice none 0 0] 27))
    unfold tv at hc ⊢
    go_enter Tryz.func62, Tryz.ntmps62
    go_wp2_with fail
    refine hc.mono ?_
    rintro e w1 ⟨rfl, hb1⟩
    have HX1 := Lib.hid (HX.out.next hb1)
    have f := HX1.out.at0
    simp only [List.mem_cons, List.not_mem_nil, or_false, forall_eq_or_imp, forall_eq] at f
    obtain ⟨p0, p1⟩ := f
    obtain ⟨u0, u1, ⟨c0, c1'⟩, f0, f1⟩ := HX1.out.facts (w.heap.size + 1) (by simp)
    have HFIN : Hid (∀ u1 u2, InP (fun _ => False) ((w1.setCell ⟨w.heap.size + 1, 0, none⟩ u1).setCell ⟨w.heap.size + 1, 1, none⟩ u2) (.leaf o) (tv o none 0 0) ∧ Below w.heap.size w ((w1.setCell ⟨w.heap.size + 1, 0, none⟩ u1).setCell ⟨w.heap.size + 1, 1, none⟩ u2)) := fun u1 u2 => HX1.out.fin (P := fun _ => False) (t := .leaf o) (x := tv o none 0 0) _ (by simp) ⟨none, 0, rfl⟩ _ _
    clear hb1 hc HX HX1
    go_wp2
    refine bodyPost_ret (v := tv o none 0 0) (by simp [results, Tryz.f62, go_sem, tv, c0, c1']) rfl ?_
    exact ⟨_, rfl, (HFIN.out _ _).1.more fun _ h => h.elim, (HFIN.out _ _).2⟩
  | node n x y ihx ihy =>
    rintro m P v w ⟨b, off, c, rfl, hb, ⟨o1, A1, n1, c1, e1, e2, e3⟩, ⟨o2, A2, n2, c2, g1, g2, g3⟩⟩ hok hm
    have hbs : b < w.heap.size := World.block_lt_of_cell? w _ e1
    simp only [Tr.okc, Bool.and_eq_true_iff, decide_eq_true_eq] at hok
    obtain ⟨hn0, hx0, hy0⟩ := hok
    have hxN := okc_N _ _ (okc_norm hx0)
    have hyN := okc_N _ _ (okc_norm hy0)
    have HX := Lib.hid (((XS.begin w).boxed (.int .i64 n) (.slice (some ⟨b, off, none⟩) 2 c) 27).fresh (.int .i64 0) (.slice none 0 0) 27)
    simp only [List.nil_append, List.cons_append, World.size_alloc] at HX
    have hc := pleaf_any n (some ⟨b, off, none⟩) 2 c ((w.alloc (.cells #[.int .i64 n, .slice (some ⟨b, off, none⟩) 2 c] 27)).alloc (.cells #[.int .i64 0, .slice none 0 0] 27))
    have HF : Hid (∀ W, XS w [(w.heap.size, 0, .int .i64 n), (w.heap.size, 1, .slice (some ⟨b, off, none⟩) 2 c)] [w.heap.size, w.heap.size + 1] W → W.cell? ⟨w.heap.size, 0, none⟩ = some (.int .i64 n) ∧ W.cell? ⟨w.heap.size, 1, none⟩ = some (.slice (some ⟨b, off, none⟩) 2 c) ∧ W.cell? ⟨b, off, none⟩ = some (.int .i64 o1) ∧ W.cell? ⟨b, off + 1, none⟩ = some (.slice A1 n1 c1) ∧ W.cell? ⟨b, off + 2, none⟩ = some (.int .i64 o2) ∧ W.cell? ⟨b, off + 2 + 1, none⟩ = some (.slice A2 n2 c2)) := fun W hW => by
      have low : ∀ i, W.cell? ⟨b, i, none⟩ = w.cell? ⟨b, i, none⟩ := fun i => hW.bel.cell hbs
      exact ⟨hW.get (by simp), hW.get (by simp), (low _).trans e1, (low _).trans e2, (low _).trans g1, (low _).trans g2⟩
    have HCX : Hid (∀ W, Below w.heap.size w W → Calls Tryz.prog 62 #[.agg #[.int .i64 o1, .slice A1 n1 c1]] W (Trees x.norm W)) := fun W hW => ihx (m - n) P _ W (e3.stay hW) hx0 (by omega)
    have HCY : Hid (∀ W, Below w.heap.size w W → Calls Tryz.prog 62 #[.agg #[.int .i64 o2, .slice A2 n2 c2]] W (Trees y.norm W)) := fun W hW => ihy (m - n) P _ W (g3.stay hW) hy0 (by omega)
    have HCR : Hid (∀ W (Q : Nat → Prop) u v, InP Q W x.norm u → InP Q W y.norm v → Calls Tryz.prog 124 #[.int .i64 n, u, v] W fun e w' => ∃ v', e = .returned v' ∧ InP (fun b => Q b ∨ New W w' b) w' (Tr.raise n x.norm y.norm) v' ∧ Below W.heap.size W w') := fun W Q u v hu hv => raise_any n x.norm y.norm u v W hu hv (by omega) (by omega) (by omega) (by omega) (by omega) (by omega)
    have HNM : Hid ((Tr.node n x y).norm = Tr.raise n x.norm y.norm) := rfl
    unfold tv at hc ⊢
    clear ihx ihy e1 e2 e3 g1 g2 g3 hx0 hy0 hxN hyN
    go_enter Tryz.func62, Tryz.ntmps62
    go_wp2_with fail
    refine hc.mono ?_
    rintro e w1 ⟨rfl, hb1⟩
    have hXD := (HX.out.next hb1).drew
    clear hb1 hc HX
    go_wp2
    refine wp_region_held_drew (S := fun W => XS w [(w.heap.size, 0, .int .i64 n), (w.heap.size, 1, .slice (some ⟨b, off, none⟩) 2 c)] [w.heap.size, w.heap.size + 1] W) (by kernel_rfl) hXD (fun hS => ?_)
    clear hXD
    generalize w1.drew = wd at hS ⊢
    refine wpAnyH_take (i := 0) (v := ?_) rfl (by kernel_rfl) (by kernel_rfl) (by kernel_rfl) (fun _ _ _ h => h) (Yields.yieldsIf (Or.inl ⟨by kernel_rfl, ?_⟩)) hS ?_
    rotate_left
    · first | (intro w; go_simp; done) | (intro w; go_simp; with_reducible rfl)
    refine wpAnyH_take (i := 1) (v := ?_) rfl (by kernel_rfl) (by kernel_rfl) (by kernel_rfl) (fun _ _ _ h => h) (Or.inl ⟨by kernel_rfl, fun W hW => ?_⟩) hS ?_
    rotate_left
    · obtain ⟨f0, f1, f2, f3, f4, f5⟩ := HF.out W hW
      first | (go_simp; done) | (go_simp; with_reducible rfl)
    refine wpAnyH_take (i := 2) (v := ?_) rfl (by kernel_rfl) (by kernel_rfl) (by kernel_rfl) (fun _ _ _ h => h) (Yields.yieldsIf (Or.inl ⟨by kernel_rfl, ?_⟩)) hS ?_
    rotate_left
    · first | (intro w; go_simp; done) | (intro w; go_simp; with_reducible rfl)
    refine wpAnyH_take (i := 3) (v := ?_) rfl (by kernel_rfl) (by kernel_rfl) (by kernel_rfl) (fun _ _ _ h => h) (Or.inl ⟨by kernel_rfl, fun W hW => ?_⟩) hS ?_
    rotate_left
    · obtain ⟨f0, f1, f2, f3, f4, f5⟩ := HF.out W hW
      first | (go_simp; done) | (go_simp; with_reducible rfl)
    refine wpAnyH_take (i := 4) (v := ?_) rfl (by kernel_rfl) (by kernel_rfl) (by kernel_rfl) (fun _ _ _ h => h) (Yields.yieldsIf (Or.inl ⟨by kernel_rfl, ?_⟩)) hS ?_
    rotate_left
    · first | (intro w; go_simp; done) | (intro w; go_simp; with_reducible rfl)
    refine wpAnyH_take (i := 5) (v := ?_) rfl (by kernel_rfl) (by kernel_rfl) (by kernel_rfl) (fun _ _ _ h => h) (Or.inl ⟨by kernel_rfl, fun W hW => ?_⟩) hS ?_
    rotate_left
    · obtain ⟨f0, f1, f2, f3, f4, f5⟩ := HF.out W hW
      first | (go_simp; done) | (go_simp; with_reducible rfl)
    refine wpAnyH_take (i := 7) (v := ?_) rfl (by kernel_rfl) (by kernel_rfl) (by kernel_rfl) (fun _ _ _ h => h) (Yields.yieldsIf (Or.inl ⟨by kernel_rfl, ?_⟩)) hS ?_
    rotate_left
    · first | (intro w; go_simp; done) | (intro w; go_simp; with_reducible rfl)
    refine wpAnyH_take (i := 8) (v := ?_) rfl (by kernel_rfl) (by kernel_rfl) (by kernel_rfl) (fun _ _ _ h => h) (Or.inl ⟨by kernel_rfl, fun W hW => ?_⟩) hS ?_
    rotate_left
    · obtain ⟨f0, f1, f2, f3, f4, f5⟩ := HF.out W hW
      first | (go_simp; done) | (go_simp; with_reducible rfl)
    refine wpAnyH_take (i := 9) (v := ?_) rfl (by kernel_rfl) (by kernel_rfl) (by kernel_rfl) (fun _ _ _ h => h) (Yields.yieldsIf (Or.inl ⟨by kernel_rfl, ?_⟩)) hS ?_
    rotate_left
    · first | (intro w; go_simp; done) | (intro w; go_simp; with_reducible rfl)
    refine wpAnyH_take (i := 10) (v := ?_) rfl (by kernel_rfl) (by kernel_rfl) (by kernel_rfl) (fun _ _ _ h => h) (Or.inl ⟨by kernel_rfl, fun W hW => ?_⟩) hS ?_
    rotate_left
    · obtain ⟨f0, f1, f2, f3, f4, f5⟩ := HF.out W hW
      first | (go_simp; done) | (go_simp; with_reducible rfl)
    refine wpAnyH_ready (rs := [6]) (by kernel_rfl) (by simp) ?_
    refine AllReadyH.cons rfl (fun K hK => ?_) AllReadyH.nil
    go_simp
    go_wp2_with (go_at_call 62; refine (HCX.out _ hS.bel).mono ?_; rintro e w3 ⟨v1, rfl, ht1, hb3⟩)
    have hS3 := hS.next hb3
    have HT1 : Hid (InP (New w w3) w3 x.norm v1) := ht1.more fun b hb => ⟨Nat.le_trans hS.bel.size hb.1, hb.2⟩
    clear hb3 ht1 hS
    refine hK.out _ _ hS3 (fun hS => ?_)
    clear hK K hS3
    refine wpAnyH_ready (rs := [11]) (by kernel_rfl) (by simp) ?_
    refine AllReadyH.cons rfl (fun K hK => ?_) AllReadyH.nil
    go_simp
    go_wp2_with (go_at_call 62; refine (HCY.out _ hS.bel).mono ?_; rintro e w4 ⟨v2, rfl, ht2, hb4⟩)
    have hS3 := hS.next hb4
    have HT2 : Hid (InP (New w w4) w4 x.norm v1) := (HT1.out.stay hb4).more fun b hb => ⟨hb.1, Nat.lt_of_lt_of_le hb.2 hb4.size⟩
    have HT3 : Hid (InP (New w w4) w4 y.norm v2) := ht2.more fun b hb => ⟨Nat.le_trans hS.bel.size hb.1, hb.2⟩
    clear hb4 ht2 hS HT1 HCX HCY
    refine hK.out _ _ hS3 (fun hS => ?_)
    clear hK K hS3
    refine wpAnyH_ready (rs := [12]) (by kernel_rfl) (by simp) ?_
    refine AllReadyH.cons rfl (fun K hK => ?_) AllReadyH.nil
    go_simp
    go_wp2_with (go_at_call 124; refine (HCR.out _ _ _ _ HT2.out HT3.out).mono ?_; rintro e w5 ⟨v3, rfl, ht3, hb5⟩)
    have hS3 := hS.next hb5
    have HT4 : Hid (InP (New w w5) w5 (Tr.raise n x.norm y.norm) v3) := ht3.more fun b hb => by
      rcases hb with hb | hb
      · exact ⟨hb.1, Nat.lt_of_lt_of_le hb.2 hb5.size⟩
      · exact ⟨Nat.le_trans hS.bel.size hb.1, hb.2⟩
    clear hb5 ht3 hS HT2 HT3 HCR
    refine hK.out _ _ hS3 (fun hS => ?_)
    clear hK K hS3
    obtain ⟨A5, n5, c5, rfl⟩ := HT4.out.form
    have HS := Lib.hid hS
    obtain ⟨u0, u1, ⟨c0, c1'⟩, f0, f1⟩ := hS.facts (w.heap.size + 1) (by simp)
    have HFIN : Hid (∀ u1 u2, InP (New w w5) ((w5.setCell ⟨w.heap.size + 1, 0, none⟩ u1).setCell ⟨w.heap.size + 1, 1, none⟩ u2) (Tr.raise n x.norm y.norm) (tv (Tr.raise n x.norm y.norm).N A5 n5 c5) ∧ Below w.heap.size w ((w5.setCell ⟨w.heap.size + 1, 0, none⟩ u1).setCell ⟨w.heap.size + 1, 1, none⟩ u2)) := fun u1 u2 => hS.fin (w.heap.size + 1) (by simp) HT4.out _ _
    obtain ⟨z, hz⟩ : ∃ z, (Tr.raise n x.norm y.norm).N = z := ⟨_, rfl⟩
    rw [hz] at HFIN ⊢
    clear HT4 hz hS
    unfold tv
    refine wpAnyH_ready (rs := [13]) (by kernel_rfl) (by simp) ?_
    refine AllReadyH.cons rfl (fun K hK => ?_) AllReadyH.nil
    go_simp
    go_wp2
    refine hK.out _ _ ((HS.out.store (w.heap.size + 1) 0 _ (by simp) (by simp)).store (w.heap.size + 1) 1 _ (by simp) (by simp)) (fun _ => ?_)
    clear hK K HS
    refine wpAnyH_done (by kernel_rfl) ?_ _
    go_wp2
    refine bodyPost_ret (v := tv z A5 n5 c5) (by simp [results, Tryz.f62, go_sem, tv, c0, c1']) rfl ?_
    refine ⟨_, rfl, ?_, (HFIN.out _ _).2⟩
    rw [HNM.out]
    exact (HFIN.out _ _).1.more fun b hb => ⟨hb.1, by rw [size_set, size_set]; exact hb.2⟩
end Go.Proofs.YtoaglkjpjolacaaGreatDoor.E
