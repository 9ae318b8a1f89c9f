/-
  Stamps: functions that make trees grow: what they are; the growth of the leaf 1, the comparison of costs, a node whose kid is written anew.
-/
import Derived.Test.YtoaglkjpjolacaaGreatDoorVSFill4
import Derived.Test.YtoaglkjpjolacaaGreatDoorProg
import Derived.Laws.StructEq
import Derived.WalkKit
namespace Go.Proofs.YtoaglkjpjolacaaGreatDoor.S
open Go.RowKit
theorem grow_cost : ∀ (k : Nat) (i : I.Tr) (e : E.Tr), i.nodes ≤ k → (growT i e).2.1 ≤ i.depth ∧ (growT i e).2.2 ≤ i.depth := by
  intro k
  induction k with
  | zero => intro i e h; have := I.Tr.nodes_pos i; omega
  | succ k ih =>
    intro i e h
    have inn : ∀ (l r : I.Tr) (n : Int) (a b : E.Tr), i = .node l r → (innT l r n a b).2.1 + 1 ≤ i.depth ∧ (innT l r n a b).2.2 ≤ i.depth := by
      intro l r n a b hi
      subst hi
      simp only [I.Tr.nodes] at h
      have h1 := ih l a (by have := I.Tr.nodes_pos r; omega)
      have h2 := ih r b (by have := I.Tr.nodes_pos l; omega)
      rw [innT]
      simp only [I.Tr.depth]
      split
      · exact ⟨by simp only; omega, by simp only; omega⟩
      · split
        · exact ⟨by simp only; omega, by simp only; omega⟩
        · split
          · exact ⟨by simp only; omega, by simp only; omega⟩
          · exact ⟨by simp only; omega, by simp only; omega⟩
    cases i with
    | leaf o => rw [growT]; exact ⟨Nat.le_refl _, Nat.le_refl _⟩
    | node l r =>
      cases e with
      | leaf n => rw [growT]; have := inn l r n (.leaf 0) (.leaf 0) rfl; exact ⟨this.1, this.2⟩
      | node n a b => rw [growT]; have := inn l r n a b rfl; exact ⟨by omega, this.2⟩

def cv (c : Cost) : Value := .agg #[.int .i64 c.1, .int .i64 c.2]
/-- What a growth answers. -/
def GrowI (r : E.Tr × Cost) (w : World) (e : Ending) (w' : World) : Prop := ∃ v, e = .returned (.tuple #[v, cv r.2]) ∧ ET w' r.1 v ∧ Below w.heap.size w w'
/-- A function of a tree (for those of D), whatever becomes of the blocks of X. -/
def RunX (X : Nat → Prop) (w : World) (D : E.Tr → Prop) (f : E.Tr → E.Tr × Cost) (F : Value) : Prop :=
  ∃ (fn : Nat) (caps : Array Value), F = .func (.func fn) #[] caps ∧ (∀ args w, (callFunc fn args).run Tryz.prog w = .ok (.enter fn args) w) ∧
    ∀ (W : World) (e : E.Tr) (v : Value), KB X w W → ET W e v → D e → Calls Tryz.prog fn (#[v] ++ caps) W (GrowI (f e) W)
def RunC (w : World) (D : E.Tr → Prop) (f : E.Tr → E.Tr × Cost) (F : Value) : Prop :=
  ∃ (fn : Nat) (caps : Array Value), F = .func (.func fn) #[] caps ∧ (∀ args w, (callFunc fn args).run Tryz.prog w = .ok (.enter fn args) w) ∧
    ∀ (W : World) (e : E.Tr) (v : Value), Below w.heap.size w W → ET W e v → D e → Calls Tryz.prog fn (#[v] ++ caps) W (GrowI (f e) W)
theorem RunX.now {X : Nat → Prop} {w W : World} {D : E.Tr → Prop} {f : E.Tr → E.Tr × Cost} {F : Value} (h : RunX X w D f F) (hk : KB X w W) : RunC W D f F := by
  obtain ⟨fn, caps, e, hr, hc⟩ := h
  exact ⟨fn, caps, e, hr, fun W' t v hb ht ho => hc W' t v (hk.trans (KB.below hb (Nat.le_refl _))) ht ho⟩
theorem enter63 : ∀ (args : Array Value) (w : World), (callFunc 84 args).run Tryz.prog w = .ok (.enter 84 args) w := fun args w => by simp [go_sem]
theorem enter65 : ∀ (args : Array Value) (w : World), (callFunc 86 args).run Tryz.prog w = .ok (.enter 86 args) w := fun args w => by simp [go_sem]
theorem enter110 : ∀ (args : Array Value) (w : World), (callFunc 162 args).run Tryz.prog w = .ok (.enter 162 args) w := fun args w => by simp [go_sem]
theorem enter111 : ∀ (args : Array Value) (w : World), (callFunc 163 args).run Tryz.prog w = .ok (.enter 163 args) w := fun args w => by simp [go_sem]

set_option maxRecDepth 100000 in
set_option maxHeartbeats 1600000 in
theorem growI_any (e : E.Tr) (v : Value) (w : World) (he : ET w e v) (h0 : 0 ≤ e.N) (h1 : e.N ≤ 4611686018427387904) : Calls Tryz.prog 84 #[v] w (GrowI (.leaf (e.N + 1), (0, 0)) w) := by
  obtain ⟨A, n, c, rfl⟩ := E.InP.form he
  generalize e.N = z at *
  have hw : IntKind.i64.wrap (z + 1) = z + 1 := E.wrap_id (by omega) (by omega)
  clear he h0 h1
  unfold E.tv
  go_enter Tryz.func84, Tryz.ntmps84
  go_wp2
  refine bodyPost_ret (v := .tuple #[E.tv (z + 1) none 0 0, cv (0, 0)]) (by simp [results, Tryz.f84, go_sem, E.tv, cv]) rfl ?_
  refine ⟨_, rfl, ⟨none, 0, rfl⟩, ?_⟩
  exact E.three_boxes w _ _ _

set_option maxRecDepth 100000 in
set_option maxHeartbeats 1600000 in
theorem below_any (x y : Cost) (w : World) : Calls Tryz.prog 164 #[cv x, cv y] w fun e w' => e = .returned (.bool (below x y)) ∧ Below w.heap.size w w' := by
  obtain ⟨x1, x2⟩ := x
  obtain ⟨y1, y2⟩ := y
  have hb : Below w.heap.size w ((w.alloc (.cells #[.int .i64 (x1 : Int), .int .i64 (x2 : Int)] 57)).alloc (.cells #[.int .i64 (y1 : Int), .int .i64 (y2 : Int)] 57)) := ((Below.refl _ w).alloc (Nat.le_refl _) _).alloc (by simp) _
  have HB := Lib.hid hb
  clear hb
  unfold cv
  by_cases h : x1 = y1
  · subst h
    have hq : below (x1, x2) (x1, y2) = decide (x2 < y2) := by simp [below]
    have HQ := Lib.hid hq
    clear hq
    go_enter Tryz.func164, Tryz.ntmps164
    go_wp2
    go_ret
    exact ⟨E.ret_bool (by rw [HQ.out]), HB.out⟩
  · have hq : below (x1, x2) (y1, y2) = decide (x1 < y1) := by simp [below, h]
    have h' : ((x1 : Int) != (y1 : Int)) = true := by simp; omega
    have HQ := Lib.hid hq
    clear hq h
    go_enter Tryz.func164, Tryz.ntmps164
    go_wp2
    go_ret
    exact ⟨E.ret_bool (by rw [HQ.out]), HB.out⟩

/-- A node made anew, its kids lying in a block of its own. -/
def NodeI (n : Int) (o1 : Int) (A1 : Option Addr) (n1 c1 : Nat) (o2 : Int) (A2 : Option Addr) (n2 c2 : Nat) (w : World) (e : Ending) (w' : World) : Prop := ∃ g : Nat, e = .returned (E.tv n (some ⟨g, 0, none⟩) 2 2) ∧ w'.heap[g]? = some (.cells #[.int .i64 o1, .slice A1 n1 c1, .int .i64 o2, .slice A2 n2 c2] 27 (0, 0)) ∧ w.heap.size ≤ g ∧ Below w.heap.size w w'
set_option maxHeartbeats 800000 in
theorem snode_new (n : Int) (o1 : Int) (A1 : Option Addr) (n1 c1 : Nat) (o2 : Int) (A2 : Option Addr) (n2 c2 : Nat) (w : World) : Calls Tryz.prog 83 #[.int .i64 n, E.tv o1 A1 n1 c1, E.tv o2 A2 n2 c2] w (NodeI n o1 A1 n1 c1 o2 A2 n2 c2 w) := by
  unfold E.tv
  go_enter Tryz.func83, Tryz.ntmps83
  go_wp2
  refine bodyPost_ret (v := E.tv n (some ⟨w.heap.size + 1 + 1 + 1, 0, none⟩) 2 2) (by simp [results, Tryz.f83, go_sem, E.tv]) rfl ?_
  have hb := E.four_boxes w (.cells #[.int .i64 o1, .slice A1 n1 c1] 27) (.cells #[.int .i64 o2, .slice A2 n2 c2] 27) (.cells #[.int .i64 n, .slice (some ⟨w.heap.size + 1 + 1 + 1, 0, none⟩) 2 2] 27) (.cells #[.int .i64 o1, .slice A1 n1 c1, .int .i64 o2, .slice A2 n2 c2] 27)
  refine ⟨w.heap.size + 1 + 1 + 1, rfl, ?_, by omega, hb⟩
  have := heap_alloc_new (((w.alloc (.cells #[.int .i64 o1, .slice A1 n1 c1] 27)).alloc (.cells #[.int .i64 o2, .slice A2 n2 c2] 27)).alloc (.cells #[.int .i64 n, .slice (some ⟨w.heap.size + 1 + 1 + 1, 0, none⟩) 2 2] 27)) (.cells #[.int .i64 o1, .slice A1 n1 c1, .int .i64 o2, .slice A2 n2 c2] 27)
  simpa only [World.size_alloc] using this

/-- A block of two nodes of the call's own, and trees that lie ahead of it. -/
structure Ext (g : Nat) (cs : Array Value) (t1 : E.Tr) (v1 : Value) (t2 : E.Tr) (v2 : Value) (W : World) : Prop where
  blk : W.heap[g]? = some (.cells cs 27 (0, 0))
  i1 : E.InP (E.Lt g) W t1 v1
  i2 : E.InP (E.Lt g) W t2 v2
theorem Ext.lt {g : Nat} {cs : Array Value} {t1 t2 : E.Tr} {v1 v2 : Value} {W : World} (h : Ext g cs t1 v1 t2 v2 W) : g < W.heap.size := (Array.getElem?_eq_some_iff.1 h.blk).1
theorem Ext.next {g : Nat} {cs : Array Value} {t1 t2 : E.Tr} {v1 v2 : Value} {W W' : World} (h : Ext g cs t1 v1 t2 v2 W) (hb : Below W.heap.size W W') : Ext g cs t1 v1 t2 v2 W' :=
  ⟨(hb.block g h.lt).trans h.blk, E.InP.below h.i1 (hb.mono (Nat.le_of_lt h.lt)), E.InP.below h.i2 (hb.mono (Nat.le_of_lt h.lt))⟩
theorem Ext.store {g g' k i : Nat} {cs : Array Value} {t1 t2 : E.Tr} {v1 v2 u : Value} {W : World} (h : Ext g cs t1 v1 t2 v2 W) (hg : Bx W g' k) (hne : g ≠ g') : Ext g cs t1 v1 t2 v2 (W.setCell ⟨g', i, none⟩ u) :=
  ⟨(Below.heap_setCell W ⟨g', i, none⟩ u g hne).trans h.blk, hg.ein h.i1, hg.ein h.i2⟩
theorem Ext.store2 {g g' : Nat} {cs : Array Value} {t1 t2 : E.Tr} {v1 v2 : Value} {u v : Value} {W : World} (h : Ext g cs t1 v1 t2 v2 W) (hg : Bx W g' 2) (hne : g ≠ g') : Ext g cs t1 v1 t2 v2 ((W.setCell ⟨g', 0, none⟩ u).setCell ⟨g', 1, none⟩ v) :=
  (h.store hg hne).store (hg.set ⟨by omega, .inl (by omega)⟩) hne
theorem Ext.cell {g : Nat} {cs : Array Value} {t1 t2 : E.Tr} {v1 v2 : Value} {W : World} (h : Ext g cs t1 v1 t2 v2 W) (i : Nat) : W.cell? ⟨g, i, none⟩ = cs[i]? := cell_of_row W g i cs 27 (0, 0) h.blk
theorem Ext.thaw {g : Nat} {cs : Array Value} {t1 t2 : E.Tr} {v1 v2 : Value} {W : World} (h : Ext g cs t1 v1 t2 v2 W) (i : Nat) : W.frozen? ⟨g, i, none⟩ = false := by simp [World.frozen?, h.blk]
theorem Ext.keep {g i : Nat} {cs : Array Value} {t1 t2 t : E.Tr} {v1 v2 v u : Value} {W W' : World} (_ : Ext g cs t1 v1 t2 v2 W) (h : E.InP (E.Lt g) W' t v) : E.InP (E.Lt g) (W'.setCell ⟨g, i, none⟩ u) t v :=
  E.InP.keep (fun p _ hp hc => by
    have hne : (⟨g, i, none⟩ : Addr) ≠ p := by
      intro e
      subst e
      exact Nat.lt_irrefl g hp
    exact (World.cell?_setCell_other _ _ _ _ hne).trans hc) h
/-- The first kid written anew. -/
theorem Ext.put1 {g n1 c1 n2 c2 : Nat} {n o2 z : Int} {x1 x2 : Value} {A1 A2 : Option Addr} {t1 t2 : E.Tr} {W : World} (h : Ext g #[x1, x2, .int .i64 o2, .slice A2 n2 c2] t1 (E.tv z A1 n1 c1) t2 (E.tv o2 A2 n2 c2) W) :
    ET ((W.setCell ⟨g, 0, none⟩ (.int .i64 z)).setCell ⟨g, 1, none⟩ (.slice A1 n1 c1)) (.node n t1 t2) (E.tv n (some ⟨g, 0, none⟩) 2 2) := by
  have hlt := h.lt
  have q0 := h.cell 0
  have q1 := h.cell 1
  have q2 := h.cell 2
  have q3 := h.cell 3
  simp at q0 q1 q2 q3
  have hs : ((W.setCell ⟨g, 0, none⟩ (.int .i64 z)).setCell ⟨g, 1, none⟩ (.slice A1 n1 c1)).heap.size = W.heap.size := by simp
  refine ⟨g, 0, 2, rfl, by show g < _; rw [hs]; exact hlt, ⟨z, A1, n1, c1, by simp [go_sem, q0], by simp [go_sem, q1], (h.keep (h.keep h.i1)).more fun b hb => ?_⟩, ⟨o2, A2, n2, c2, by simp [go_sem, q2], by simp [go_sem, q3], (h.keep (h.keep h.i2)).more fun b hb => ?_⟩⟩
  · show b < _; rw [hs]; exact Nat.lt_trans hb hlt
  · show b < _; rw [hs]; exact Nat.lt_trans hb hlt
/-- The second one. -/
theorem Ext.put2 {g n1 c1 n2 c2 : Nat} {n o2 z : Int} {x1 x2 : Value} {A1 A2 : Option Addr} {t1 t2 : E.Tr} {W : World} (h : Ext g #[.int .i64 o2, .slice A2 n2 c2, x1, x2] t1 (E.tv z A1 n1 c1) t2 (E.tv o2 A2 n2 c2) W) :
    ET ((W.setCell ⟨g, 2, none⟩ (.int .i64 z)).setCell ⟨g, 3, none⟩ (.slice A1 n1 c1)) (.node n t2 t1) (E.tv n (some ⟨g, 0, none⟩) 2 2) := by
  have hlt := h.lt
  have q0 := h.cell 0
  have q1 := h.cell 1
  have q2 := h.cell 2
  have q3 := h.cell 3
  simp at q0 q1 q2 q3
  have hs : ((W.setCell ⟨g, 2, none⟩ (.int .i64 z)).setCell ⟨g, 3, none⟩ (.slice A1 n1 c1)).heap.size = W.heap.size := by simp
  refine ⟨g, 0, 2, rfl, by show g < _; rw [hs]; exact hlt, ⟨o2, A2, n2, c2, by simp [go_sem, q0], by simp [go_sem, q1], (h.keep (h.keep h.i2)).more fun b hb => ?_⟩, ⟨z, A1, n1, c1, by simp [go_sem, q2], by simp [go_sem, q3], (h.keep (h.keep h.i1)).more fun b hb => ?_⟩⟩
  · show b < _; rw [hs]; exact Nat.lt_trans hb hlt
  · show b < _; rw [hs]; exact Nat.lt_trans hb hlt
section
variable {w W W' : World} {bs bs' : List (Nat × Nat × Value)} {rs rs' : List (Nat × Nat)}
/-- A write into a block of which nothing is said. -/
theorem SX.far (h : SX w bs rs [] [] W) (g i : Nat) (u : Value) (hg : w.heap.size ≤ g) (hb : ∀ b ∈ bs, b.1 ≠ g) (hr : ∀ r ∈ rs, r.1 ≠ g) : SX w bs rs [] [] (W.setCell ⟨g, i, none⟩ u) :=
  ⟨fun b hm => (World.cell?_setCell_other _ _ _ _ (fun e => by injection e with e e'; exact hb b hm e.symm)).trans (h.at0 b hm), fun r hm => ⟨(h.box r hm).1.far (hr r hm) u, (h.box r hm).2⟩, by simp, by simp, h.bel.setCell (p := ⟨g, i, none⟩) hg _⟩
end
end Go.Proofs.YtoaglkjpjolacaaGreatDoor.S
namespace Go.Proofs.YtoaglkjpjolacaaGreatDoor.S
open Go.RowKit
theorem run_equalIn65 (a b c d : Int) (k : Nat) (w : World) : (Op.equalIn (k + 1 + 1) 57 (.agg #[.int .i64 a, .int .i64 b]) (.agg #[.int .i64 c, .int .i64 d])).run Tryz.prog w = .ok ((a == c) && (b == d)) w := by
  have hu : Tryz.prog.underlying 3 = some (.int .i64) := Tryz.underlying3
  have ha : Tryz.prog.underlying 57 = some (.array 2 3) := Tryz.underlying57
  have h1 := fun (x y : Int) (w : World) => run_equalIn_int (P := Tryz.prog) w k 3 .i64 .i64 x y hu
  rw [Op.equalIn]
  simp only [Sem.run_bind, run_underlying ha, Result.andThen_ok]
  simp only [Std.Legacy.Range.forIn_eq_forIn_range', Std.Legacy.Range.size]
  by_cases e1 : a = c <;> by_cases e2 : b = d <;> simp [go_sem, List.range', h1, e1, e2]
theorem run_eql65 (a b c d : Int) (w : World) : (binOp .eql 57 (.agg #[.int .i64 a, .int .i64 b]) (.agg #[.int .i64 c, .int .i64 d])).run Tryz.prog w = .ok (.bool ((a == c) && (b == d))) w := by
  rw [run_eql_struct]
  have := run_equalIn65 a b c d 9998 w
  rw [show (10000 : Nat) = 9998 + 1 + 1 from rfl, this]
  rfl
theorem guard65 : Tryz.prog.eqGuardType Tryz.prog.depth 57 = false := by kernel_rfl
end Go.Proofs.YtoaglkjpjolacaaGreatDoor.S
namespace Go.Proofs.YtoaglkjpjolacaaGreatDoor.S
open Go.RowKit
/-- The cheaper one, the second of two that cost the same. -/
def cheap (x y : E.Tr × Cost) : E.Tr × Cost := if x.2 = y.2 ∨ below y.2 x.2 = true then y else x
set_option maxRecDepth 100000 in
set_option maxHeartbeats 12800000 in
theorem cheaper_any {f1 f2 : E.Tr → E.Tr × Cost} {D1 D2 : E.Tr → Prop} {F1 F2 : Value} {g1 g2 : Nat} (e : E.Tr) (v : Value) (w : World)
    (j0 : w.cell? ⟨g1, 0, none⟩ = some F1) (j1 : w.cell? ⟨g2, 0, none⟩ = some F2) (h1 : RunC w D1 f1 F1) (h2 : RunC w D2 f2 F2) (he : ET w e v) (d1 : D1 e) (d2 : D2 e) :
    Calls Tryz.prog 163 #[v, .pointer (some ⟨g1, 0, none⟩), .pointer (some ⟨g2, 0, none⟩)] w (GrowI (cheap (f1 e) (f2 e)) w) := by
  obtain ⟨fn1, caps1, rfl, en1, cal1⟩ := h1
  obtain ⟨fn2, caps2, rfl, en2, cal2⟩ := h2
  have cal1' : ∀ (W : World) (v : Value), Below w.heap.size w W → ET W e v → Calls Tryz.prog fn1 (#[v] ++ caps1) W (GrowI (f1 e) W) := fun W v hb hv => cal1 W e v hb hv d1
  have cal2' : ∀ (W : World) (v : Value), Below w.heap.size w W → ET W e v → Calls Tryz.prog fn2 (#[v] ++ caps2) W (GrowI (f2 e) W) := fun W v hb hv => cal2 W e v hb hv d2
  clear cal1 cal2 d1 d2
  generalize f1 e = r1 at *
  generalize f2 e = r2 at *
  obtain ⟨A, n, c, rfl⟩ := E.InP.form he
  have HX0 := Lib.hid ((((SX.begin w).two (.int .i64 e.N) (.slice A n c) 27).two (.int .i64 0) (.slice none 0 0) 27).two (.int .i64 0) (.int .i64 0) 57)
  simp only [List.nil_append, List.cons_append, World.size_alloc] at HX0
  obtain ⟨t1, a1, b1⟩ := r1
  obtain ⟨t2, a2, b2⟩ := r2
  obtain ⟨z, hz⟩ : ∃ z, e.N = z := ⟨_, rfl⟩
  rw [hz] at HX0 he ⊢
  clear hz
  have l1 : g1 < w.heap.size := World.block_lt_of_cell? w _ j0
  have l2 : g2 < w.heap.size := World.block_lt_of_cell? w _ j1
  have HO : Hid (∀ W, Below w.heap.size w W → W.cell? ⟨g1, 0, none⟩ = some (.func (.func fn1) #[] caps1) ∧ W.cell? ⟨g2, 0, none⟩ = some (.func (.func fn2) #[] caps2)) :=
    fun W hb => ⟨(hb.cell l1).trans j0, (hb.cell l2).trans j1⟩
  have HE := Lib.hid he
  have CAL1 := Lib.hid cal1'
  have CAL2 := Lib.hid cal2'
  have s0 : w.heap.size + 3 ≤ ((((w.alloc (.cells #[.int .i64 z, .slice A n c] 27)).alloc (.cells #[.int .i64 0, .slice none 0 0] 27)).alloc (.cells #[.int .i64 0, .int .i64 0] 57))).heap.size := by simp
  have hca := CAL1.out _ (E.tv z A n c) HX0.out.bel (E.InP.up HE.out HX0.out.bel)
  obtain ⟨b0, b1'⟩ := HO.out _ HX0.out.bel
  clear j0 j1 he cal1' cal2' l1 l2
  unfold E.tv at hca ⊢
  go_enter Tryz.func163, Tryz.ntmps163
  go_wp2_with fail
  refine hca.mono ?_
  rintro e w1 ⟨v1, rfl, ht1, hb1⟩
  obtain ⟨A1, n1, c1, rfl⟩ := E.InP.form ht1
  simp only at ht1 ⊢
  obtain ⟨z1, hz1⟩ : ∃ z1, t1.N = z1 := ⟨_, rfl⟩
  rw [hz1] at ht1 ⊢
  clear hz1
  have s1 : w.heap.size + 3 ≤ w1.heap.size := Nat.le_trans s0 hb1.size
  have HX1 := Lib.hid ((((HX0.out.next hb1).e ht1).two (.int .i64 z1) (.slice A1 n1 c1) 27).two (.int .i64 (a1 : Int)) (.int .i64 (b1 : Int)) 57)
  simp only [List.nil_append, List.cons_append, World.size_alloc] at HX1
  clear hca hb1 ht1 s0 b0 b1' HX0
  unfold E.tv cv
  go_upto_region 2 with fail
  have sz1 : w1.heap.size + 2 ≤ ((w1.alloc (.cells #[.int .i64 z1, .slice A1 n1 c1] 27)).alloc (.cells #[.int .i64 (a1 : Int), .int .i64 (b1 : Int)] 57)).heap.size := by simp
  generalize (w1.alloc (.cells #[.int .i64 z1, .slice A1 n1 c1] 27)).alloc (.cells #[.int .i64 (a1 : Int), .int .i64 (b1 : Int)] 57) = w2 at *
  have hca := CAL2.out w2 (E.tv z A n c) HX1.out.bel (E.InP.up HE.out HX1.out.bel)
  obtain ⟨b0, b1'⟩ := HO.out w2 HX1.out.bel
  have f := HX1.out.at0
  simp only [List.mem_cons, List.not_mem_nil, or_false, forall_eq_or_imp, forall_eq] at f
  obtain ⟨p0, p1, p2, p3, p4, p5, p6, p7, p8, p9⟩ := f
  unfold E.tv at hca
  go_wp2_with fail
  refine hca.mono ?_
  rintro e w3 ⟨v2, rfl, ht2, hb2⟩
  obtain ⟨A2, n2, c2, rfl⟩ := E.InP.form ht2
  simp only at ht2 ⊢
  obtain ⟨z2, hz2⟩ : ∃ z2, t2.N = z2 := ⟨_, rfl⟩
  rw [hz2] at ht2 ⊢
  clear hz2
  have s3 : w1.heap.size + 2 ≤ w3.heap.size := Nat.le_trans sz1 hb2.size
  have HX2 := Lib.hid ((((HX1.out.next hb2).e ht2).two (.int .i64 z2) (.slice A2 n2 c2) 27).two (.int .i64 (a2 : Int)) (.int .i64 (b2 : Int)) 57)
  simp only [List.nil_append, List.cons_append, World.size_alloc] at HX2
  clear hca hb2 ht2 b0 b1' HX1 p0 p1 p2 p3 p4 p5 p6 p7 p8 p9
  unfold E.tv cv
  go_upto_region 3 with fail
  have sz3 : w3.heap.size + 2 ≤ ((w3.alloc (.cells #[.int .i64 z2, .slice A2 n2 c2] 27)).alloc (.cells #[.int .i64 (a2 : Int), .int .i64 (b2 : Int)] 57)).heap.size := by simp
  generalize (w3.alloc (.cells #[.int .i64 z2, .slice A2 n2 c2] 27)).alloc (.cells #[.int .i64 (a2 : Int), .int .i64 (b2 : Int)] 57) = w4 at *
  have HEQ : ∀ (a b c d : Int) (w : World), (binOp .eql 57 (.agg #[.int .i64 a, .int .i64 b]) (.agg #[.int .i64 c, .int .i64 d])).run Tryz.prog w = .ok (.bool ((a == c) && (b == d))) w := run_eql65
  have HGU : Tryz.prog.eqGuardType Tryz.prog.depth 57 = false := guard65
  by_cases hq : a1 = a2 ∧ b1 = b2
  · obtain ⟨rfl, rfl⟩ := hq
    have hqb : (((a1 : Int) == (a1 : Int)) && ((b1 : Int) == (b1 : Int))) = true := by simp
    have f := HX2.out.at0
    simp only [List.mem_cons, List.not_mem_nil, or_false, forall_eq_or_imp, forall_eq] at f
    obtain ⟨p0, p1, p2, p3, p4, p5, p6, p7, p8, p9, p10, p11, p12, p13⟩ := f
    go_upto_region 4 with fail
    clear p0 p1 p2 p3 p4 p5 p6 p7 p8 p9 p10 p11 p12 p13
    refine wp_region_held_drew (S := fun W => SX w [(w3.heap.size, 0, .int .i64 z2), (w3.heap.size, 1, .slice A2 n2 c2), (w3.heap.size + 1, 0, .int .i64 (a1 : Int)), (w3.heap.size + 1, 1, .int .i64 (b1 : Int))] [(w.heap.size, 2), (w.heap.size + 1, 2), (w.heap.size + 1 + 1, 2), (w1.heap.size, 2), (w1.heap.size + 1, 2), (w3.heap.size, 2), (w3.heap.size + 1, 2)] [] [(t2, E.tv z2 A2 n2 c2), (t1, E.tv z1 A1 n1 c1)] W) (by kernel_rfl) ((HX2.out.drew).sub (by simp) (by simp) (by simp) (by simp)) (fun hS => ?_)
    have HXd := Lib.hid ((HX2.out.drew).sub (bs' := [(w3.heap.size, 0, .int .i64 z2), (w3.heap.size, 1, .slice A2 n2 c2), (w3.heap.size + 1, 0, .int .i64 (a1 : Int)), (w3.heap.size + 1, 1, .int .i64 (b1 : Int))]) (rs' := [(w.heap.size, 2), (w.heap.size + 1, 2), (w.heap.size + 1 + 1, 2), (w1.heap.size, 2), (w1.heap.size + 1, 2), (w3.heap.size, 2), (w3.heap.size + 1, 2)]) (is' := []) (es' := [(t2, E.tv z2 A2 n2 c2), (t1, E.tv z1 A1 n1 c1)]) (by simp) (by simp) (by simp) (by simp))
    clear HX2
    generalize w4.drew = wd at *
    refine wpAnyH_take (i := 0) (v := ?_) rfl (by kernel_rfl) (by kernel_rfl) (by kernel_rfl) (fun _ _ _ h => h) (Or.inl ⟨by kernel_rfl, fun W hW => ?_⟩) hS ?_
    rotate_left
    · have f := hW.at0
      simp only [List.mem_cons, List.not_mem_nil, or_false, forall_eq_or_imp, forall_eq] at f
      obtain ⟨p0, p1, p2, p3⟩ := f
      first | (go_simp; done) | (go_simp; with_reducible rfl)
    refine wpAnyH_take (i := 1) (v := ?_) rfl (by kernel_rfl) (by kernel_rfl) (by kernel_rfl) (fun _ _ _ h => h) (Or.inl ⟨by kernel_rfl, fun W hW => ?_⟩) hS ?_
    rotate_left
    · have f := hW.at0
      simp only [List.mem_cons, List.not_mem_nil, or_false, forall_eq_or_imp, forall_eq] at f
      obtain ⟨p0, p1, p2, p3⟩ := f
      first | (go_simp; done) | (go_simp; with_reducible rfl)
    refine wpAnyH_ready (rs := [2]) (by kernel_rfl) (by simp) ?_
    refine AllReadyH.cons rfl (fun K hK => ?_) AllReadyH.nil
    obtain ⟨y0, y1, q0, q1, q2, q3⟩ := HXd.out.facts2 (w.heap.size + 1) (by simp)
    go_simp
    go_wp2
    have HXdx := Lib.hid ((HXd.out.sub (bs' := [(w3.heap.size, 0, .int .i64 z2), (w3.heap.size, 1, .slice A2 n2 c2), (w3.heap.size + 1, 0, .int .i64 (a1 : Int)), (w3.heap.size + 1, 1, .int .i64 (b1 : Int))]) (rs' := [(w.heap.size, 2), (w.heap.size + 1, 2), (w.heap.size + 1 + 1, 2), (w1.heap.size, 2), (w1.heap.size + 1, 2), (w3.heap.size, 2), (w3.heap.size + 1, 2)]) (is' := []) (es' := [(t2, E.tv z2 A2 n2 c2), (t1, E.tv z1 A1 n1 c1)]) (by simp) (by simp) (by simp) (by simp)).set2 (w.heap.size + 1) (.int .i64 z2) (.slice A2 n2 c2) (by simp) (by simp only [List.mem_cons, List.not_mem_nil, or_false, forall_eq_or_imp, forall_eq]; omega) (by simp))
    clear q0 q1 q2 q3 HXd
    refine hK.out _ _ (HXdx.out.sub (by simp) (by simp) (by simp) (by simp)) (fun hS => ?_)
    clear hK K
    generalize (wd.setCell ⟨w.heap.size + 1, 0, none⟩ (.int .i64 z2)).setCell ⟨w.heap.size + 1, 1, none⟩ (.slice A2 n2 c2) = wdx at *
    refine wpAnyH_ready (rs := [3]) (by kernel_rfl) (by simp) ?_
    refine AllReadyH.cons rfl (fun K hK => ?_) AllReadyH.nil
    obtain ⟨y0, y1, q0, q1, q2, q3⟩ := HXdx.out.facts2 (w.heap.size + 1 + 1) (by simp)
    go_simp
    go_wp2
    have HXdxx := Lib.hid ((HXdx.out.sub (bs' := [(w3.heap.size, 0, .int .i64 z2), (w3.heap.size, 1, .slice A2 n2 c2), (w3.heap.size + 1, 0, .int .i64 (a1 : Int)), (w3.heap.size + 1, 1, .int .i64 (b1 : Int)), (w.heap.size + 1, 0, (.int .i64 z2)), (w.heap.size + 1, 1, (.slice A2 n2 c2))]) (rs' := [(w.heap.size, 2), (w.heap.size + 1, 2), (w.heap.size + 1 + 1, 2), (w1.heap.size, 2), (w1.heap.size + 1, 2), (w3.heap.size, 2), (w3.heap.size + 1, 2)]) (is' := []) (es' := [(t2, E.tv z2 A2 n2 c2), (t1, E.tv z1 A1 n1 c1)]) (by simp) (by simp) (by simp) (by simp)).set2 (w.heap.size + 1 + 1) (.int .i64 (a1 : Int)) (.int .i64 (b1 : Int)) (by simp) (by simp only [List.mem_cons, List.not_mem_nil, or_false, forall_eq_or_imp, forall_eq]; omega) (by simp))
    clear q0 q1 q2 q3 HXdx
    refine hK.out _ _ (HXdxx.out.sub (by simp) (by simp) (by simp) (by simp)) (fun hS => ?_)
    clear hK K
    generalize (wdx.setCell ⟨w.heap.size + 1 + 1, 0, none⟩ (.int .i64 (a1 : Int))).setCell ⟨w.heap.size + 1 + 1, 1, none⟩ (.int .i64 (b1 : Int)) = wdxx at *
    try go_simp
    refine wpAnyH_done (by kernel_rfl) ?_ _
    have f := HXdxx.out.at0
    simp only [List.mem_cons, List.not_mem_nil, or_false, forall_eq_or_imp, forall_eq] at f
    obtain ⟨p0, p1, p2, p3, p4, p5, p6, p7⟩ := f
    go_wp2
    refine bodyPost_ret (v := .tuple #[E.tv z2 A2 n2 c2, cv (a1, b1)]) (by simp [results, Tryz.f163, go_sem, E.tv, cv, *]) rfl ?_
    have HLE := (show cheap (t1, a1, b1) (t2, a1, b1) = (t2, a1, b1) from if_pos (.inl rfl))
    rw [HLE]
    exact ⟨_, rfl, HXdxx.out.eget (by simp), HXdxx.out.bel⟩
  · have hqb : (((a1 : Int) == (a2 : Int)) && ((b1 : Int) == (b2 : Int))) = false := by
      rcases Decidable.not_and_iff_or_not.1 hq with h | h
      · have : ((a1 : Int) == (a2 : Int)) = false := beq_eq_false_iff_ne.2 (by omega)
        rw [this]; rfl
      · have : ((b1 : Int) == (b2 : Int)) = false := beq_eq_false_iff_ne.2 (by omega)
        rw [this, Bool.and_false]
    have hne : ¬ ((a1, b1) : Cost) = (a2, b2) := fun h => hq (by injection h with h1 h2; exact ⟨h1, h2⟩)
    have HNE := Lib.hid hne
    clear hne hq
    have hcb := below_any (a2, b2) (a1, b1) w4
    obtain ⟨bb, hbb⟩ : ∃ bb, below (a2, b2) (a1, b1) = bb := ⟨_, rfl⟩
    rw [hbb] at hcb
    have HBB := Lib.hid hbb
    clear hbb
    unfold cv at hcb
    have f := HX2.out.at0
    simp only [List.mem_cons, List.not_mem_nil, or_false, forall_eq_or_imp, forall_eq] at f
    obtain ⟨p0, p1, p2, p3, p4, p5, p6, p7, p8, p9, p10, p11, p12, p13⟩ := f
    go_wp2_with fail
    refine hcb.mono ?_
    rintro e w5 ⟨rfl, hb5⟩
    have HX5 := Lib.hid (HX2.out.next hb5)
    clear hcb hb5 HX2 p0 p1 p2 p3 p4 p5 p6 p7 p8 p9 p10 p11 p12 p13
    cases bb with
    | true =>
      have f := HX5.out.at0
      simp only [List.mem_cons, List.not_mem_nil, or_false, forall_eq_or_imp, forall_eq] at f
      obtain ⟨p0, p1, p2, p3, p4, p5, p6, p7, p8, p9, p10, p11, p12, p13⟩ := f
      go_upto_region 4 with fail
      clear p0 p1 p2 p3 p4 p5 p6 p7 p8 p9 p10 p11 p12 p13
      refine wp_region_held_drew (S := fun W => SX w [(w3.heap.size, 0, .int .i64 z2), (w3.heap.size, 1, .slice A2 n2 c2), (w3.heap.size + 1, 0, .int .i64 (a2 : Int)), (w3.heap.size + 1, 1, .int .i64 (b2 : Int))] [(w.heap.size, 2), (w.heap.size + 1, 2), (w.heap.size + 1 + 1, 2), (w1.heap.size, 2), (w1.heap.size + 1, 2), (w3.heap.size, 2), (w3.heap.size + 1, 2)] [] [(t2, E.tv z2 A2 n2 c2), (t1, E.tv z1 A1 n1 c1)] W) (by kernel_rfl) ((HX5.out.drew).sub (by simp) (by simp) (by simp) (by simp)) (fun hS => ?_)
      have HXd := Lib.hid ((HX5.out.drew).sub (bs' := [(w3.heap.size, 0, .int .i64 z2), (w3.heap.size, 1, .slice A2 n2 c2), (w3.heap.size + 1, 0, .int .i64 (a2 : Int)), (w3.heap.size + 1, 1, .int .i64 (b2 : Int))]) (rs' := [(w.heap.size, 2), (w.heap.size + 1, 2), (w.heap.size + 1 + 1, 2), (w1.heap.size, 2), (w1.heap.size + 1, 2), (w3.heap.size, 2), (w3.heap.size + 1, 2)]) (is' := []) (es' := [(t2, E.tv z2 A2 n2 c2), (t1, E.tv z1 A1 n1 c1)]) (by simp) (by simp) (by simp) (by simp))
      clear HX5
      generalize w5.drew = wd at *
      refine wpAnyH_take (i := 0) (v := ?_) rfl (by kernel_rfl) (by kernel_rfl) (by kernel_rfl) (fun _ _ _ h => h) (Or.inl ⟨by kernel_rfl, fun W hW => ?_⟩) hS ?_
      rotate_left
      · have f := hW.at0
        simp only [List.mem_cons, List.not_mem_nil, or_false, forall_eq_or_imp, forall_eq] at f
        obtain ⟨p0, p1, p2, p3⟩ := f
        first | (go_simp; done) | (go_simp; with_reducible rfl)
      refine wpAnyH_take (i := 1) (v := ?_) rfl (by kernel_rfl) (by kernel_rfl) (by kernel_rfl) (fun _ _ _ h => h) (Or.inl ⟨by kernel_rfl, fun W hW => ?_⟩) hS ?_
      rotate_left
      · have f := hW.at0
        simp only [List.mem_cons, List.not_mem_nil, or_false, forall_eq_or_imp, forall_eq] at f
        obtain ⟨p0, p1, p2, p3⟩ := f
        first | (go_simp; done) | (go_simp; with_reducible rfl)
      refine wpAnyH_ready (rs := [2]) (by kernel_rfl) (by simp) ?_
      refine AllReadyH.cons rfl (fun K hK => ?_) AllReadyH.nil
      obtain ⟨y0, y1, q0, q1, q2, q3⟩ := HXd.out.facts2 (w.heap.size + 1) (by simp)
      go_simp
      go_wp2
      have HXdx := Lib.hid ((HXd.out.sub (bs' := [(w3.heap.size, 0, .int .i64 z2), (w3.heap.size, 1, .slice A2 n2 c2), (w3.heap.size + 1, 0, .int .i64 (a2 : Int)), (w3.heap.size + 1, 1, .int .i64 (b2 : Int))]) (rs' := [(w.heap.size, 2), (w.heap.size + 1, 2), (w.heap.size + 1 + 1, 2), (w1.heap.size, 2), (w1.heap.size + 1, 2), (w3.heap.size, 2), (w3.heap.size + 1, 2)]) (is' := []) (es' := [(t2, E.tv z2 A2 n2 c2), (t1, E.tv z1 A1 n1 c1)]) (by simp) (by simp) (by simp) (by simp)).set2 (w.heap.size + 1) (.int .i64 z2) (.slice A2 n2 c2) (by simp) (by simp only [List.mem_cons, List.not_mem_nil, or_false, forall_eq_or_imp, forall_eq]; omega) (by simp))
      clear q0 q1 q2 q3 HXd
      refine hK.out _ _ (HXdx.out.sub (by simp) (by simp) (by simp) (by simp)) (fun hS => ?_)
      clear hK K
      generalize (wd.setCell ⟨w.heap.size + 1, 0, none⟩ (.int .i64 z2)).setCell ⟨w.heap.size + 1, 1, none⟩ (.slice A2 n2 c2) = wdx at *
      refine wpAnyH_ready (rs := [3]) (by kernel_rfl) (by simp) ?_
      refine AllReadyH.cons rfl (fun K hK => ?_) AllReadyH.nil
      obtain ⟨y0, y1, q0, q1, q2, q3⟩ := HXdx.out.facts2 (w.heap.size + 1 + 1) (by simp)
      go_simp
      go_wp2
      have HXdxx := Lib.hid ((HXdx.out.sub (bs' := [(w3.heap.size, 0, .int .i64 z2), (w3.heap.size, 1, .slice A2 n2 c2), (w3.heap.size + 1, 0, .int .i64 (a2 : Int)), (w3.heap.size + 1, 1, .int .i64 (b2 : Int)), (w.heap.size + 1, 0, (.int .i64 z2)), (w.heap.size + 1, 1, (.slice A2 n2 c2))]) (rs' := [(w.heap.size, 2), (w.heap.size + 1, 2), (w.heap.size + 1 + 1, 2), (w1.heap.size, 2), (w1.heap.size + 1, 2), (w3.heap.size, 2), (w3.heap.size + 1, 2)]) (is' := []) (es' := [(t2, E.tv z2 A2 n2 c2), (t1, E.tv z1 A1 n1 c1)]) (by simp) (by simp) (by simp) (by simp)).set2 (w.heap.size + 1 + 1) (.int .i64 (a2 : Int)) (.int .i64 (b2 : Int)) (by simp) (by simp only [List.mem_cons, List.not_mem_nil, or_false, forall_eq_or_imp, forall_eq]; omega) (by simp))
      clear q0 q1 q2 q3 HXdx
      refine hK.out _ _ (HXdxx.out.sub (by simp) (by simp) (by simp) (by simp)) (fun hS => ?_)
      clear hK K
      generalize (wdx.setCell ⟨w.heap.size + 1 + 1, 0, none⟩ (.int .i64 (a2 : Int))).setCell ⟨w.heap.size + 1 + 1, 1, none⟩ (.int .i64 (b2 : Int)) = wdxx at *
      try go_simp
      refine wpAnyH_done (by kernel_rfl) ?_ _
      have f := HXdxx.out.at0
      simp only [List.mem_cons, List.not_mem_nil, or_false, forall_eq_or_imp, forall_eq] at f
      obtain ⟨p0, p1, p2, p3, p4, p5, p6, p7⟩ := f
      go_wp2
      refine bodyPost_ret (v := .tuple #[E.tv z2 A2 n2 c2, cv (a2, b2)]) (by simp [results, Tryz.f163, go_sem, E.tv, cv, *]) rfl ?_
      have HLE := (show cheap (t1, a1, b1) (t2, a2, b2) = (t2, a2, b2) from if_pos (.inr HBB.out))
      rw [HLE]
      exact ⟨_, rfl, HXdxx.out.eget (by simp), HXdxx.out.bel⟩
    | false =>
      have f := HX5.out.at0
      simp only [List.mem_cons, List.not_mem_nil, or_false, forall_eq_or_imp, forall_eq] at f
      obtain ⟨p0, p1, p2, p3, p4, p5, p6, p7, p8, p9, p10, p11, p12, p13⟩ := f
      go_upto_region 5 with fail
      clear p0 p1 p2 p3 p4 p5 p6 p7 p8 p9 p10 p11 p12 p13
      refine wp_region_held_drew (S := fun W => SX w [(w1.heap.size, 0, .int .i64 z1), (w1.heap.size, 1, .slice A1 n1 c1), (w1.heap.size + 1, 0, .int .i64 (a1 : Int)), (w1.heap.size + 1, 1, .int .i64 (b1 : Int))] [(w.heap.size, 2), (w.heap.size + 1, 2), (w.heap.size + 1 + 1, 2), (w1.heap.size, 2), (w1.heap.size + 1, 2), (w3.heap.size, 2), (w3.heap.size + 1, 2)] [] [(t2, E.tv z2 A2 n2 c2), (t1, E.tv z1 A1 n1 c1)] W) (by kernel_rfl) ((HX5.out.drew).sub (by simp) (by simp) (by simp) (by simp)) (fun hS => ?_)
      have HXd := Lib.hid ((HX5.out.drew).sub (bs' := [(w1.heap.size, 0, .int .i64 z1), (w1.heap.size, 1, .slice A1 n1 c1), (w1.heap.size + 1, 0, .int .i64 (a1 : Int)), (w1.heap.size + 1, 1, .int .i64 (b1 : Int))]) (rs' := [(w.heap.size, 2), (w.heap.size + 1, 2), (w.heap.size + 1 + 1, 2), (w1.heap.size, 2), (w1.heap.size + 1, 2), (w3.heap.size, 2), (w3.heap.size + 1, 2)]) (is' := []) (es' := [(t2, E.tv z2 A2 n2 c2), (t1, E.tv z1 A1 n1 c1)]) (by simp) (by simp) (by simp) (by simp))
      clear HX5
      generalize w5.drew = wd at *
      refine wpAnyH_take (i := 0) (v := ?_) rfl (by kernel_rfl) (by kernel_rfl) (by kernel_rfl) (fun _ _ _ h => h) (Or.inl ⟨by kernel_rfl, fun W hW => ?_⟩) hS ?_
      rotate_left
      · have f := hW.at0
        simp only [List.mem_cons, List.not_mem_nil, or_false, forall_eq_or_imp, forall_eq] at f
        obtain ⟨p0, p1, p2, p3⟩ := f
        first | (go_simp; done) | (go_simp; with_reducible rfl)
      refine wpAnyH_take (i := 1) (v := ?_) rfl (by kernel_rfl) (by kernel_rfl) (by kernel_rfl) (fun _ _ _ h => h) (Or.inl ⟨by kernel_rfl, fun W hW => ?_⟩) hS ?_
      rotate_left
      · have f := hW.at0
        simp only [List.mem_cons, List.not_mem_nil, or_false, forall_eq_or_imp, forall_eq] at f
        obtain ⟨p0, p1, p2, p3⟩ := f
        first | (go_simp; done) | (go_simp; with_reducible rfl)
      refine wpAnyH_ready (rs := [2]) (by kernel_rfl) (by simp) ?_
      refine AllReadyH.cons rfl (fun K hK => ?_) AllReadyH.nil
      obtain ⟨y0, y1, q0, q1, q2, q3⟩ := HXd.out.facts2 (w.heap.size + 1) (by simp)
      go_simp
      go_wp2
      have HXdx := Lib.hid ((HXd.out.sub (bs' := [(w1.heap.size, 0, .int .i64 z1), (w1.heap.size, 1, .slice A1 n1 c1), (w1.heap.size + 1, 0, .int .i64 (a1 : Int)), (w1.heap.size + 1, 1, .int .i64 (b1 : Int))]) (rs' := [(w.heap.size, 2), (w.heap.size + 1, 2), (w.heap.size + 1 + 1, 2), (w1.heap.size, 2), (w1.heap.size + 1, 2), (w3.heap.size, 2), (w3.heap.size + 1, 2)]) (is' := []) (es' := [(t2, E.tv z2 A2 n2 c2), (t1, E.tv z1 A1 n1 c1)]) (by simp) (by simp) (by simp) (by simp)).set2 (w.heap.size + 1) (.int .i64 z1) (.slice A1 n1 c1) (by simp) (by simp only [List.mem_cons, List.not_mem_nil, or_false, forall_eq_or_imp, forall_eq]; omega) (by simp))
      clear q0 q1 q2 q3 HXd
      refine hK.out _ _ (HXdx.out.sub (by simp) (by simp) (by simp) (by simp)) (fun hS => ?_)
      clear hK K
      generalize (wd.setCell ⟨w.heap.size + 1, 0, none⟩ (.int .i64 z1)).setCell ⟨w.heap.size + 1, 1, none⟩ (.slice A1 n1 c1) = wdx at *
      refine wpAnyH_ready (rs := [3]) (by kernel_rfl) (by simp) ?_
      refine AllReadyH.cons rfl (fun K hK => ?_) AllReadyH.nil
      obtain ⟨y0, y1, q0, q1, q2, q3⟩ := HXdx.out.facts2 (w.heap.size + 1 + 1) (by simp)
      go_simp
      go_wp2
      have HXdxx := Lib.hid ((HXdx.out.sub (bs' := [(w1.heap.size, 0, .int .i64 z1), (w1.heap.size, 1, .slice A1 n1 c1), (w1.heap.size + 1, 0, .int .i64 (a1 : Int)), (w1.heap.size + 1, 1, .int .i64 (b1 : Int)), (w.heap.size + 1, 0, (.int .i64 z1)), (w.heap.size + 1, 1, (.slice A1 n1 c1))]) (rs' := [(w.heap.size, 2), (w.heap.size + 1, 2), (w.heap.size + 1 + 1, 2), (w1.heap.size, 2), (w1.heap.size + 1, 2), (w3.heap.size, 2), (w3.heap.size + 1, 2)]) (is' := []) (es' := [(t2, E.tv z2 A2 n2 c2), (t1, E.tv z1 A1 n1 c1)]) (by simp) (by simp) (by simp) (by simp)).set2 (w.heap.size + 1 + 1) (.int .i64 (a1 : Int)) (.int .i64 (b1 : Int)) (by simp) (by simp only [List.mem_cons, List.not_mem_nil, or_false, forall_eq_or_imp, forall_eq]; omega) (by simp))
      clear q0 q1 q2 q3 HXdx
      refine hK.out _ _ (HXdxx.out.sub (by simp) (by simp) (by simp) (by simp)) (fun hS => ?_)
      clear hK K
      generalize (wdx.setCell ⟨w.heap.size + 1 + 1, 0, none⟩ (.int .i64 (a1 : Int))).setCell ⟨w.heap.size + 1 + 1, 1, none⟩ (.int .i64 (b1 : Int)) = wdxx at *
      try go_simp
      refine wpAnyH_done (by kernel_rfl) ?_ _
      have f := HXdxx.out.at0
      simp only [List.mem_cons, List.not_mem_nil, or_false, forall_eq_or_imp, forall_eq] at f
      obtain ⟨p0, p1, p2, p3, p4, p5, p6, p7⟩ := f
      go_wp2
      refine bodyPost_ret (v := .tuple #[E.tv z1 A1 n1 c1, cv (a1, b1)]) (by simp [results, Tryz.f163, go_sem, E.tv, cv, *]) rfl ?_
      have HLE := (show cheap (t1, a1, b1) (t2, a2, b2) = (t1, a1, b1) from if_neg (by rintro (h | h); exact HNE.out h; rw [HBB.out] at h; cases h))
      rw [HLE]
      exact ⟨_, rfl, HXdxx.out.eget (by simp), HXdxx.out.bel⟩
end Go.Proofs.YtoaglkjpjolacaaGreatDoor.S
