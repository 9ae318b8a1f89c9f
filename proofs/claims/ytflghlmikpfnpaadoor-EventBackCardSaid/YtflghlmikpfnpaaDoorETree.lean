/-
  Trees in memory, right or not; variables of two cells.
-/
import Derived.Test.YtflghlmikpfnpaaDoorProg
import Derived.Test.YtflghlmikpfnpaaDoorEFo
import Derived.WalkKit
import Derived.WalkSpells
import Derived.WalkLawsBesides
import Derived.LoopTactic
import Derived.Laws.ShiftsVar
import Derived.Laws.BitsAllLaws
import Derived.Lib.Hide
import Derived.Deep.LoopGhost
import Derived.IntWalk
import Derived.Deep.OwnRows
import Derived.Deep.DeepAppendWide
import Derived.Laws.CopyOwn
import Derived.Laws.OwnMore
import Derived.Deep.RegionWith
import Derived.Deep.RegionHeld
import Derived.Deep.QuietTactic
import Derived.StillTailTactics
namespace Go.Proofs.YtflghlmikpfnpaaDoor.E
open Go.RowKit

theorem ret_int {k : IntKind} {a b : Int} (h : a = b) : Ending.returned (.int k a) = .returned (.int k b) := by rw [h]
theorem ret_bool {a b : Bool} (h : a = b) : Ending.returned (.bool a) = .returned (.bool b) := by rw [h]
theorem wrap_id {x : Int} (h1 : -9223372036854775808 ≤ x) (h2 : x ≤ 9223372036854775807) : IntKind.i64.wrap x = x := by rw [IntKind.wrap_i64]; omega
theorem below_drewN {B : Nat} {a w : World} (h : Below B a w) (n : Nat) : Below B a (w.drewN n) := by
  induction n with
  | zero => exact h
  | succ n ih => exact ih.drew
theorem size_set (W : World) (p : Addr) (u : Value) : (W.setCell p u).heap.size = W.heap.size := by simp
theorem three_boxes (w : World) (o1 o2 o3 : Obj) : Below w.heap.size w (((w.alloc o1).alloc o2).alloc o3) := (((Below.refl _ w).alloc (Nat.le_refl _) _).alloc (by simp) _).alloc (by simp; omega) _
theorem four_boxes (w : World) (o1 o2 o3 o4 : Obj) : Below w.heap.size w ((((w.alloc o1).alloc o2).alloc o3).alloc o4) := (three_boxes w o1 o2 o3).alloc (by simp; omega) _
/-- A tree as a value. -/
def tv (n : Int) (A : Option Addr) (k c : Nat) : Value := .agg #[.int .i64 n, .slice A k c]
theorem tv_inj {n m : Int} {A B : Option Addr} {k l c d : Nat} (h : tv n A k c = tv m B l d) : n = m ∧ A = B ∧ k = l ∧ c = d := by
  unfold tv at h
  simp only [Value.agg.injEq, Array.mk.injEq, List.cons.injEq, Value.int.injEq, Value.slice.injEq, and_true, true_and] at h
  exact ⟨h.1, h.2.1, h.2.2.1, h.2.2.2⟩

/-- Trees one behind the other from a cell on, in blocks that have a property. -/
def InF (P : Nat → Prop) (w : World) : Fo → Nat → Nat → Prop
  | .nil, _, _ => True
  | .cons o ks rest, b, off => (∃ A c, w.cell? ⟨b, off, none⟩ = some (.int .i64 o) ∧ w.cell? ⟨b, off + 1, none⟩ = some (.slice A ks.len c) ∧ (ks.len = 0 ∨ ∃ b' off', A = some ⟨b', off', none⟩ ∧ P b' ∧ InF P w ks b' off')) ∧ InF P w rest b (off + 2)
/-- A slice of trees. -/
def Kd (P : Nat → Prop) (w : World) (ks : Fo) (A : Option Addr) : Prop := ks.len = 0 ∨ ∃ b off, A = some ⟨b, off, none⟩ ∧ P b ∧ InF P w ks b off
theorem InF.keep {P : Nat → Prop} {w w' : World} (hk : ∀ (p : Addr) (v : Value), P p.block → w.cell? p = some v → w'.cell? p = some v) : ∀ {f : Fo} {b off : Nat}, P b → InF P w f b off → InF P w' f b off
  | .nil, _, _, _, _ => trivial
  | .cons o ks rest, b, off, hb, ⟨⟨A, c, h1, h2, h3⟩, h4⟩ => by
    refine ⟨⟨A, c, hk _ _ hb h1, hk _ _ hb h2, ?_⟩, InF.keep hk hb h4⟩
    rcases h3 with h3 | ⟨b', off', e, hb', h3⟩
    · exact .inl h3
    · exact .inr ⟨b', off', e, hb', InF.keep hk hb' h3⟩
theorem InF.more {P Q : Nat → Prop} {w : World} (hB : ∀ b, P b → Q b) : ∀ {f : Fo} {b off : Nat}, InF P w f b off → InF Q w f b off
  | .nil, _, _, _ => trivial
  | .cons o ks rest, b, off, ⟨⟨A, c, h1, h2, h3⟩, h4⟩ => by
    refine ⟨⟨A, c, h1, h2, ?_⟩, InF.more hB h4⟩
    rcases h3 with h3 | ⟨b', off', e, hb', h3⟩
    · exact .inl h3
    · exact .inr ⟨b', off', e, hB _ hb', InF.more hB h3⟩
theorem Kd.keep {P : Nat → Prop} {w w' : World} (hk : ∀ (p : Addr) (v : Value), P p.block → w.cell? p = some v → w'.cell? p = some v) {f : Fo} {A : Option Addr} (h : Kd P w f A) : Kd P w' f A := by
  rcases h with h | ⟨b, off, e, hb, h⟩
  · exact .inl h
  · exact .inr ⟨b, off, e, hb, h.keep hk hb⟩
theorem Kd.more {P Q : Nat → Prop} {w : World} {ks : Fo} {A : Option Addr} (h : Kd P w ks A) (hB : ∀ b, P b → Q b) : Kd Q w ks A := by
  rcases h with h | ⟨b, off, e, hl, h⟩
  · exact .inl h
  · exact .inr ⟨b, off, e, hB _ hl, h.more hB⟩
/-- Below a block. -/
def Lt (B : Nat) : Nat → Prop := fun b => b < B
theorem Kd.below {w w' : World} {B : Nat} {ks : Fo} {A : Option Addr} (h : Kd (Lt B) w ks A) (hb : Below B w w') : Kd (Lt B) w' ks A := h.keep fun _ _ hp hc => (hb.cell hp).trans hc
theorem Kd.up {w w' : World} {ks : Fo} {A : Option Addr} (h : Kd (Lt w.heap.size) w ks A) (hb : Below w.heap.size w w') : Kd (Lt w'.heap.size) w' ks A := (h.below hb).more fun _ h => Nat.lt_of_lt_of_le h hb.size

/-- A right tree in memory, in blocks that have a property. -/
def InP (P : Nat → Prop) (w : World) : Tr → Value → Prop
  | .leaf n, v => ∃ A c, v = tv n A 0 c
  | .node n x y, v => ∃ b off c, v = tv n (some ⟨b, off, none⟩) 2 c ∧ P b ∧
      (∃ n A k c, w.cell? ⟨b, off, none⟩ = some (.int .i64 n) ∧ w.cell? ⟨b, off + 1, none⟩ = some (.slice A k c) ∧ InP P w x (tv n A k c)) ∧
      (∃ n A k c, w.cell? ⟨b, off + 2, none⟩ = some (.int .i64 n) ∧ w.cell? ⟨b, off + 3, none⟩ = some (.slice A k c) ∧ InP P w y (tv n A k c))
theorem InP.keep {P : Nat → Prop} {w w' : World} (hk : ∀ (p : Addr) (v : Value), P p.block → w.cell? p = some v → w'.cell? p = some v) : ∀ {t : Tr} {v : Value}, InP P w t v → InP P w' t v
  | .leaf _, _, h => h
  | .node _ _ _, _, ⟨b, off, c, e, hb, ⟨o1, A1, n1, c1, h1, h2, h3⟩, ⟨o2, A2, n2, c2, g1, g2, g3⟩⟩ =>
    ⟨b, off, c, e, hb, ⟨o1, A1, n1, c1, hk _ _ hb h1, hk _ _ hb h2, h3.keep hk⟩, ⟨o2, A2, n2, c2, hk _ _ hb g1, hk _ _ hb g2, g3.keep hk⟩⟩
theorem InP.more {P Q : Nat → Prop} {w : World} (hB : ∀ b, P b → Q b) : ∀ {t : Tr} {v : Value}, InP P w t v → InP Q w t v
  | .leaf _, _, h => h
  | .node _ _ _, _, ⟨b, off, c, e, hb, ⟨o1, A1, n1, c1, h1, h2, h3⟩, ⟨o2, A2, n2, c2, g1, g2, g3⟩⟩ =>
    ⟨b, off, c, e, hB b hb, ⟨o1, A1, n1, c1, h1, h2, h3.more hB⟩, ⟨o2, A2, n2, c2, g1, g2, g3.more hB⟩⟩
abbrev InT (w : World) (B : Nat) (t : Tr) (v : Value) : Prop := InP (Lt B) w t v
theorem InP.below {w w' : World} {B : Nat} {t : Tr} {v : Value} (h : InP (Lt B) w t v) (hb : Below B w w') : InP (Lt B) w' t v := h.keep fun _ _ hp hc => (hb.cell hp).trans hc
theorem InP.up {w w' : World} {t : Tr} {v : Value} (h : InP (Lt w.heap.size) w t v) (hb : Below w.heap.size w w') : InP (Lt w'.heap.size) w' t v := (h.below hb).more fun _ h => Nat.lt_of_lt_of_le h hb.size
/-- Blocks that a call has made. -/
def New (w w' : World) : Nat → Prop := fun b => w.heap.size ≤ b ∧ b < w'.heap.size
theorem InP.old {w w' : World} {t : Tr} {v : Value} (h : InP (New w w') w' t v) : InT w' w'.heap.size t v := h.more fun _ h => h.2
/-- Whatever lay in old blocks stays. -/
theorem InP.stay {P : Nat → Prop} {w w' : World} {t : Tr} {v : Value} (h : InP P w t v) (hb : Below w.heap.size w w') : InP P w' t v := h.keep fun p _ _ hc => (hb.cell (World.block_lt_of_cell? w p hc)).trans hc
theorem InP.form {P : Nat → Prop} {w : World} {t : Tr} {v : Value} (h : InP P w t v) : ∃ A k c, v = tv t.N A k c := by
  cases t with
  | leaf o => obtain ⟨A, c, e⟩ := h; exact ⟨_, _, _, e⟩
  | node o x y => obtain ⟨b, off, c, e, _⟩ := h; exact ⟨_, _, _, e⟩
/-- A tree's root may be another number. -/
theorem InP.root {P : Nat → Prop} {w : World} {t : Tr} {n : Int} {A : Option Addr} {k c : Nat} (h : InP P w t (tv n A k c)) (d : Int) : InP P w (t.add d) (tv (n + d) A k c) := by
  cases t with
  | leaf o =>
    obtain ⟨A', c', e⟩ := h
    obtain ⟨rfl, rfl, rfl, rfl⟩ := tv_inj e
    exact ⟨A, c, rfl⟩
  | node o x y =>
    obtain ⟨b, off, c', e, h⟩ := h
    obtain ⟨rfl, rfl, rfl, rfl⟩ := tv_inj e
    exact ⟨b, off, c, rfl, h⟩
theorem InP.leafy {P : Nat → Prop} {w : World} {x : Tr} {n : Int} {A : Option Addr} {k c : Nat} (h : InP P w x (tv n A k c)) : (k = 0 ∧ x = .leaf n) ∨ (k = 2 ∧ ∃ l r, x = .node n l r) := by
  cases x with
  | leaf o =>
    obtain ⟨A', c', e⟩ := h
    obtain ⟨rfl, rfl, rfl, rfl⟩ := tv_inj e
    exact .inl ⟨rfl, rfl⟩
  | node o l r =>
    obtain ⟨b, off, c', e, _⟩ := h
    obtain ⟨rfl, rfl, rfl, rfl⟩ := tv_inj e
    exact .inr ⟨rfl, l, r, rfl⟩
/-- Trees that came in and are right in shape, one behind the other. -/
def InTs (P : Nat → Prop) (w : World) : List Tr → Nat → Nat → Prop
  | [], _, _ => True
  | t :: ts, b, off => (∃ o A n c, w.cell? ⟨b, off, none⟩ = some (.int .i64 o) ∧ w.cell? ⟨b, off + 1, none⟩ = some (.slice A n c) ∧ InP P w t (tv o A n c)) ∧ InTs P w ts b (off + 2)
theorem one_in {P : Nat → Prop} {w : World} {o : Int} {ks : Fo} {A : Option Addr} {c : Nat} {k : List Tr} {t : Tr} (hk : trees ks = some k) (ht : one o k = some t) (h : Kd P w ks A) (ih : ∀ b off, InF P w ks b off → InTs P w k b off) : InP P w t (tv o A ks.len c) := by
  have hlen := trees_len ks k hk
  match k, hlen, ht with
  | [], hlen, ht =>
    simp only [one, Option.some.injEq] at ht
    subst ht
    rw [← hlen]
    exact ⟨A, c, rfl⟩
  | [x, y], hlen, ht =>
    simp only [one, Option.some.injEq] at ht
    subst ht
    rcases h with h | ⟨b, off, rfl, hb, h⟩
    · rw [← hlen] at h; cases h
    · obtain ⟨h1, h2, _⟩ := ih b off h
      rw [← hlen]
      exact ⟨b, off, c, rfl, hb, h1, h2⟩
  | [_], _, ht => simp [one] at ht
  | _ :: _ :: _ :: _, _, ht => simp [one] at ht
theorem in_trees {P : Nat → Prop} {w : World} : ∀ (f : Fo) (ts : List Tr) (b off : Nat), trees f = some ts → InF P w f b off → InTs P w ts b off
  | .nil, ts, b, off, h, _ => by simp [trees] at h; subst h; trivial
  | .cons o ks rest, ts, b, off, h, ⟨⟨A, c, h1, h2, h3⟩, h4⟩ => by
    simp only [trees] at h
    obtain ⟨k, hk, h⟩ := Option.bind_eq_some_iff.1 h
    obtain ⟨t, ht, h⟩ := Option.bind_eq_some_iff.1 h
    obtain ⟨r, hr, rfl⟩ := Option.map_eq_some_iff.1 h
    exact ⟨⟨o, A, ks.len, c, h1, h2, one_in hk ht h3 (fun b off hf => in_trees ks k b off hk hf)⟩, in_trees rest r b (off + 2) hr h4⟩
theorem in_treeOf {P : Nat → Prop} {w : World} {o : Int} {ks : Fo} {A : Option Addr} {c : Nat} {t : Tr} (ht : treeOf o ks = some t) (h : Kd P w ks A) : InP P w t (tv o A ks.len c) ∧ okT t = true := by
  unfold treeOf at ht
  obtain ⟨h1, h2⟩ := Option.filter_eq_some_iff.1 ht
  obtain ⟨k, hk, h1⟩ := Option.bind_eq_some_iff.1 h1
  exact ⟨one_in hk h1 h (fun b off hf => in_trees ks k b off hk hf), h2⟩
/-- A right tree in memory as trees that came in are. -/
theorem unT {P : Nat → Prop} {w : World} : ∀ {t : Tr} {v : Value}, InP P w t v → ∃ (ks : Fo) (A : Option Addr) (c : Nat), v = tv t.N A ks.len c ∧ Kd P w ks A ∧ (trees ks).bind (one t.N) = some t
  | .leaf o, _, ⟨A, c, rfl⟩ => ⟨.nil, A, c, rfl, .inl rfl, rfl⟩
  | .node o x y, _, ⟨b, off, c, rfl, hb, ⟨o1, A1, n1, c1, h1, h2, h3⟩, ⟨o2, A2, n2, c2, g1, g2, g3⟩⟩ => by
    obtain ⟨k1, B1, d1, e1, kd1, t1⟩ := unT h3
    obtain ⟨k2, B2, d2, e2, kd2, t2⟩ := unT g3
    obtain ⟨rfl, rfl, rfl, rfl⟩ := tv_inj e1
    obtain ⟨rfl, rfl, rfl, rfl⟩ := tv_inj e2
    refine ⟨.cons x.N k1 (.cons y.N k2 .nil), _, c, rfl, .inr ⟨b, off, rfl, hb, ⟨A1, c1, h1, h2, kd1⟩, ⟨A2, c2, g1, g2, kd2⟩, trivial⟩, ?_⟩
    obtain ⟨l1, hl1, ht1⟩ := Option.bind_eq_some_iff.1 t1
    obtain ⟨l2, hl2, ht2⟩ := Option.bind_eq_some_iff.1 t2
    have e2 : trees (.cons y.N k2 .nil) = some [y] := by simp only [trees, hl2, Option.bind_some, ht2, Option.map_some]
    have e1 : trees (.cons x.N k1 (.cons y.N k2 .nil)) = some [x, y] := by
      have e : trees (.cons x.N k1 (.cons y.N k2 .nil)) = (trees k1).bind fun k => (one x.N k).bind fun t => (trees (.cons y.N k2 .nil)).map (t :: ·) := rfl
      rw [e, e2, hl1, Option.bind_some, ht1, Option.bind_some, Option.map_some]
    rw [e1]
    rfl
/-- A variable of two cells that is no part of a tree may be written. -/
def Box2 (w : World) (g : Nat) : Prop := ∃ (cs : Array Value) (t : TypeId), w.heap[g]? = some (.cells cs t (0, 0)) ∧ cs.size = 2
theorem Box2.off {w : World} {g : Nat} (h : Box2 w g) {i : Nat} (hi : 2 ≤ i) : w.cell? ⟨g, i, none⟩ = none := by
  obtain ⟨cs, t, h1, h2⟩ := h
  rw [cell_of_row w g i cs t (0, 0) h1]
  exact Array.getElem?_eq_none (by omega)
theorem Box2.set {w : World} {g i : Nat} (h : Box2 w g) (u : Value) : Box2 (w.setCell ⟨g, i, none⟩ u) g := by
  obtain ⟨cs, t, h1, h2⟩ := h
  exact ⟨cs.setIfInBounds i u, t, by simp [World.setCell, Array.getElem?_modify, h1], by simpa using h2⟩
theorem Box2.below {w w' : World} {g B : Nat} (h : Box2 w g) (hb : Below B w w') (hg : g < B) : Box2 w' g := by
  obtain ⟨cs, t, h1, h2⟩ := h
  exact ⟨cs, t, (hb.block g hg).trans h1, h2⟩
theorem Box2.facts {w : World} {g : Nat} (h : Box2 w g) : ∃ u0 u1, (w.cell? ⟨g, 0, none⟩ = some u0 ∧ w.cell? ⟨g, 1, none⟩ = some u1) ∧ w.frozen? ⟨g, 0, none⟩ = false ∧ w.frozen? ⟨g, 1, none⟩ = false := by
  obtain ⟨cs, t, h1, h2⟩ := h
  refine ⟨cs[0]'(by omega), cs[1]'(by omega), ⟨?_, ?_⟩, ?_, ?_⟩
  · rw [cell_of_row w g 0 _ t (0, 0) h1]; exact Array.getElem?_eq_getElem _
  · rw [cell_of_row w g 1 _ t (0, 0) h1]; exact Array.getElem?_eq_getElem _
  · simp [World.frozen?, h1]
  · simp [World.frozen?, h1]
theorem Box2.far {w : World} {g g' i : Nat} (h : Box2 w g) (hne : g ≠ g') (u : Value) : Box2 (w.setCell ⟨g', i, none⟩ u) g := by
  obtain ⟨cs, t, h1, h2⟩ := h
  exact ⟨cs, t, (Below.heap_setCell w ⟨g', i, none⟩ u g hne).trans h1, h2⟩
theorem Box2.new (w : World) (u v : Value) (t : TypeId) : Box2 (w.alloc (.cells #[u, v] t)) w.heap.size := ⟨_, t, heap_alloc_new w _, rfl⟩
theorem InP.set2 {P : Nat → Prop} {w : World} {g i : Nat} {u : Value} (h2 : Box2 w g) : ∀ {t : Tr} {v : Value}, InP P w t v → InP P (w.setCell ⟨g, i, none⟩ u) t v
  | .leaf _, _, h => h
  | .node _ _ _, _, ⟨b, off, c, e, hb, ⟨o1, A1, n1, c1, k1, k2, k3⟩, ⟨o2, A2, n2, c2, g1, g2, g3⟩⟩ => by
    have hne : b ≠ g := by
      rintro rfl
      rw [h2.off (by omega)] at g1; cases g1
    have hk : ∀ j, (w.setCell ⟨g, i, none⟩ u).cell? ⟨b, j, none⟩ = w.cell? ⟨b, j, none⟩ := fun j => World.cell?_setCell_other _ _ _ _ (fun e => by injection e with e1 _ _; exact hne e1.symm)
    exact ⟨b, off, c, e, hb, ⟨o1, A1, n1, c1, (hk _).trans k1, (hk _).trans k2, InP.set2 h2 k3⟩, ⟨o2, A2, n2, c2, (hk _).trans g1, (hk _).trans g2, InP.set2 h2 g3⟩⟩
/-- Cells that hold what they hold; variables of two cells of the call's own. -/
structure XS (w : World) (bs : List (Nat × Nat × Value)) (rs : List Nat) (W : World) : Prop where
  at0 : ∀ b ∈ bs, W.cell? ⟨b.1, b.2.1, none⟩ = some b.2.2
  box : ∀ r ∈ rs, Box2 W r ∧ w.heap.size ≤ r
  bel : Below w.heap.size w W
theorem XS.get {w W : World} {bs : List (Nat × Nat × Value)} {rs : List Nat} (h : XS w bs rs W) {g i : Nat} {v : Value} (hm : (g, i, v) ∈ bs) : W.cell? ⟨g, i, none⟩ = some v := h.at0 _ hm
theorem XS.next {w W W' : World} {bs : List (Nat × Nat × Value)} {rs : List Nat} (h : XS w bs rs W) (hb : Below W.heap.size W W') : XS w bs rs W' :=
  ⟨fun b hm => (hb.cell (World.block_lt_of_cell? W _ (h.at0 b hm))).trans (h.at0 b hm),
   fun r hm => ⟨(h.box r hm).1.below hb (World.block_lt_of_cell? W _ (h.box r hm).1.facts.choose_spec.choose_spec.1.1), (h.box r hm).2⟩, h.bel.trans (hb.mono h.bel.size)⟩
theorem XS.drew {w W : World} {bs : List (Nat × Nat × Value)} {rs : List Nat} (h : XS w bs rs W) : XS w bs rs W.drew := h.next ((Below.refl W.heap.size W).drew)
theorem XS.begin (w : World) : XS w [] [] w := ⟨by simp, by simp, Below.refl _ _⟩
theorem XS.alloc {w W : World} {bs : List (Nat × Nat × Value)} {rs : List Nat} (h : XS w bs rs W) (o : Obj) : XS w bs rs (W.alloc o) := h.next ((Below.refl W.heap.size W).alloc (Nat.le_refl _) _)
/-- One more variable, with its values. -/
theorem XS.boxed {w W : World} {bs : List (Nat × Nat × Value)} {rs : List Nat} (h : XS w bs rs W) (u v : Value) (t : TypeId) : XS w (bs ++ [(W.heap.size, 0, u), (W.heap.size, 1, v)]) (rs ++ [W.heap.size]) (W.alloc (.cells #[u, v] t)) := by
  have h1 := h.alloc (.cells #[u, v] t)
  refine ⟨fun b hm => ?_, fun r hm => ?_, h1.bel⟩
  · rcases List.mem_append.1 hm with hm | hm
    · exact h1.at0 b hm
    · simp only [List.mem_cons, List.not_mem_nil, or_false] at hm
      rcases hm with rfl | rfl <;> simp [go_sem]
  · rcases List.mem_append.1 hm with hm | hm
    · exact h1.box r hm
    · simp only [List.mem_singleton] at hm
      subst hm
      exact ⟨Box2.new W u v t, h.bel.size⟩
/-- A write into a variable of which nothing is said. -/
theorem XS.store {w W : World} {bs : List (Nat × Nat × Value)} {rs : List Nat} (h : XS w bs rs W) (g i : Nat) (u : Value) (hg : g ∈ rs) (hd : ∀ b ∈ bs, b.1 ≠ g ∨ b.2.1 ≠ i) : XS w bs rs (W.setCell ⟨g, i, none⟩ u) := by
  refine ⟨fun b hm => (World.cell?_setCell_other _ _ _ _ (fun e => by injection e with e e'; rcases hd b hm with h | h; exact h e.symm; exact h e'.symm)).trans (h.at0 b hm), fun r hm => ⟨?_, (h.box r hm).2⟩, h.bel.setCell (p := ⟨g, i, none⟩) (h.box g hg).2 _⟩
  by_cases e : r = g
  · subst e; exact (h.box r hm).1.set u
  · exact (h.box r hm).1.far e u
theorem XS.sub {w W : World} {bs bs' : List (Nat × Nat × Value)} {rs rs' : List Nat} (h : XS w bs rs W) (h1 : ∀ b ∈ bs', b ∈ bs) (h2 : ∀ r ∈ rs', r ∈ rs) : XS w bs' rs' W := ⟨fun b hm => h.at0 b (h1 b hm), fun r hm => h.box r (h2 r hm), h.bel⟩
theorem XS.facts {w W : World} {bs : List (Nat × Nat × Value)} {rs : List Nat} (h : XS w bs rs W) (g : Nat) (hg : g ∈ rs) : ∃ u0 u1, (W.cell? ⟨g, 0, none⟩ = some u0 ∧ W.cell? ⟨g, 1, none⟩ = some u1) ∧ W.frozen? ⟨g, 0, none⟩ = false ∧ W.frozen? ⟨g, 1, none⟩ = false := (h.box g hg).1.facts
/-- A tree that was stored into a variable of two cells. -/
theorem XS.fin {w W : World} {bs : List (Nat × Nat × Value)} {rs : List Nat} (h : XS w bs rs W) (g : Nat) (hg : g ∈ rs) {P : Nat → Prop} {t : Tr} {x : Value} (ht : InP P W t x) (u1 u2 : Value) :
    InP P ((W.setCell ⟨g, 0, none⟩ u1).setCell ⟨g, 1, none⟩ u2) t x ∧ Below w.heap.size w ((W.setCell ⟨g, 0, none⟩ u1).setCell ⟨g, 1, none⟩ u2) :=
  ⟨InP.set2 ((h.box g hg).1.set u1) (InP.set2 (h.box g hg).1 ht), (h.bel.setCell (p := ⟨g, 0, none⟩) (h.box g hg).2 _).setCell (p := ⟨g, 1, none⟩) (h.box g hg).2 _⟩

/-- A call that hands back a tree in new blocks. -/
def Trees (t : Tr) (w : World) (e : Ending) (w' : World) : Prop := ∃ v, e = .returned v ∧ InP (New w w') w' t v ∧ Below w.heap.size w w'
/-- A tree and an error's number. -/
def Ans (r : Tr × Int) (w : World) (e : Ending) (w' : World) : Prop := ∃ v, e = .returned (.tuple #[v, .int .i64 r.2]) ∧ InP (New w w') w' r.1 v ∧ Below w.heap.size w w'
theorem zero_in (P : Nat → Prop) (w : World) : InP P w (.leaf 0) (tv 0 none 0 0) := ⟨none, 0, rfl⟩
/-- A tree that is handed in, anywhere in memory: the right tree T, or none. -/
def Arg (w : World) (T : Option Tr) (v : Value) : Prop := ∃ o ks A c, v = tv o A ks.len c ∧ Kd (Lt w.heap.size) w ks A ∧ treeOf o ks = T
theorem Arg.up {w w' : World} {T : Option Tr} {v : Value} (h : Arg w T v) (hb : Below w.heap.size w w') : Arg w' T v := by
  obtain ⟨o, ks, A, c, e, hk, ht⟩ := h
  exact ⟨o, ks, A, c, e, hk.up hb, ht⟩
theorem Arg.form {w : World} {T : Option Tr} {v : Value} (h : Arg w T v) : ∃ o A n c, v = tv o A n c := by
  obtain ⟨o, ks, A, c, e, hk, ht⟩ := h
  exact ⟨o, A, ks.len, c, e⟩
theorem Arg.inT {w : World} {t : Tr} {v : Value} (h : Arg w (some t) v) : InT w w.heap.size t v ∧ okT t = true := by
  obtain ⟨o, ks, A, c, rfl, hk, ht⟩ := h
  exact in_treeOf ht hk
theorem arg_of {w : World} {t : Tr} {v : Value} (h : InT w w.heap.size t v) : Arg w (fit t) v := by
  obtain ⟨ks, A, c, rfl, hk, ht⟩ := unT h
  refine ⟨_, ks, A, c, rfl, hk, ?_⟩
  unfold treeOf E.fit
  rw [ht]
  simp [Option.filter]
end Go.Proofs.YtflghlmikpfnpaaDoor.E
