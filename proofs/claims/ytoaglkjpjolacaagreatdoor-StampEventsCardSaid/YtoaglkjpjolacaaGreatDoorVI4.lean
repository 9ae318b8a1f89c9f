/-
  What trees denote, path by path; the facts on normal forms, sums and splits that follow. No program here.
-/
import Derived.Test.YtoaglkjpjolacaaGreatDoorVIPair
import Derived.Test.YtoaglkjpjolacaaGreatDoorVISplit
import Derived.Test.YtoaglkjpjolacaaGreatDoorVI1
import Derived.Test.YtoaglkjpjolacaaGreatDoorVI2
namespace Go.Proofs.YtoaglkjpjolacaaGreatDoor.I
def tl (f : Nat → Bool) : Nat → Bool := fun n => f (n + 1)
/-- Is the point that a path leads to in the tree's part? -/
def den : Tr → (Nat → Bool) → Bool
  | .leaf o, _ => o
  | .node l r, f => if f 0 = true then den r (tl f) else den l (tl f)
theorem norm_norm : ∀ t : Tr, t.norm.norm = t.norm
  | .leaf _ => rfl
  | .node l r => by
    have hl := norm_norm l
    have hr := norm_norm r
    rw [Tr.norm]
    generalize l.norm = a at *
    generalize r.norm = b at *
    have key : (a.mk2 b).norm = a.norm.mk2 b.norm := by
      cases a with
      | leaf x =>
        cases b with
        | leaf y =>
          by_cases e : x = y
          · subst e; simp [Tr.mk2, Tr.norm]
          · simp [Tr.mk2, Tr.norm, e]
        | node _ _ => rfl
      | node _ _ => cases b <;> rfl
    rw [key, hl, hr]
/-- A normal form's kids are normal forms. -/
theorem norm_kids {x y : Tr} (h : (Tr.node x y).norm = .node x y) : x.norm = x ∧ y.norm = y := by
  rw [Tr.norm] at h
  generalize x.norm = a at *
  generalize y.norm = b at *
  cases a with
  | leaf p =>
    cases b with
    | leaf q =>
      simp only [Tr.mk2] at h
      split at h
      · cases h
      · injection h with h1 h2; exact ⟨h1, h2⟩
    | node _ _ => simp only [Tr.mk2] at h; injection h with h1 h2; exact ⟨h1, h2⟩
  | node _ _ => cases b <;> (simp only [Tr.mk2] at h; injection h with h1 h2; exact ⟨h1, h2⟩)
end Go.Proofs.YtoaglkjpjolacaaGreatDoor.I
namespace Go.Proofs.YtoaglkjpjolacaaGreatDoor.I
open Go.RowKit
/-- Two boxed trees, and a tree for the answer. -/
structure UB (w : World) (o1 : Bool) (A1 : Option Addr) (n1 c1 : Nat) (o2 : Bool) (A2 : Option Addr) (n2 c2 : Nat) (W : World) : Prop where
  a0 : W.cell? ⟨w.heap.size, 0, none⟩ = some (.bool o1)
  a1 : W.cell? ⟨w.heap.size, 1, none⟩ = some (.slice A1 n1 c1)
  b0 : W.cell? ⟨w.heap.size + 1, 0, none⟩ = some (.bool o2)
  b1 : W.cell? ⟨w.heap.size + 1, 1, none⟩ = some (.slice A2 n2 c2)
  box : Box2 W (w.heap.size + 1 + 1)
  bel : Below w.heap.size w W
  big : w.heap.size + 3 ≤ W.heap.size
theorem UB.start (w : World) (o1 : Bool) (A1 : Option Addr) (n1 c1 : Nat) (o2 : Bool) (A2 : Option Addr) (n2 c2 : Nat) : UB w o1 A1 n1 c1 o2 A2 n2 c2 (JW w o1 A1 n1 c1 o2 A2 n2 c2) := by
  obtain ⟨a0, a1, b0, b1, h, h1, h2⟩ := JB.start w o1 A1 n1 c1 o2 A2 n2 c2
  exact ⟨a0, a1, b0, b1, h.two, h1, h2⟩
section
variable {w : World} {o1 o2 : Bool} {A1 A2 : Option Addr} {n1 n2 c1 c2 : Nat} {W W' : World}
theorem UB.next (h : UB w o1 A1 n1 c1 o2 A2 n2 c2 W) {B : Nat} (hb : Below B W W') (hB : w.heap.size + 3 ≤ B) : UB w o1 A1 n1 c1 o2 A2 n2 c2 W' :=
  ⟨(hb.cell (by show w.heap.size < _; omega)).trans h.a0, (hb.cell (by show w.heap.size < _; omega)).trans h.a1, (hb.cell (by show w.heap.size + 1 < _; omega)).trans h.b0, (hb.cell (by show w.heap.size + 1 < _; omega)).trans h.b1, h.box.below hb (by omega), h.bel.trans (hb.mono (by omega)), Nat.le_trans h.big hb.size⟩
theorem UB.drew (h : UB w o1 A1 n1 c1 o2 A2 n2 c2 W) : UB w o1 A1 n1 c1 o2 A2 n2 c2 W.drew := h.next ((Below.refl W.heap.size W).drew) h.big
theorem UB.store (h : UB w o1 A1 n1 c1 o2 A2 n2 c2 W) (i : Nat) (u : Value) : UB w o1 A1 n1 c1 o2 A2 n2 c2 (W.setCell ⟨w.heap.size + 1 + 1, i, none⟩ u) :=
  ⟨(World.cell?_setCell_other _ _ _ _ (fun e => by injection e; omega)).trans h.a0, (World.cell?_setCell_other _ _ _ _ (fun e => by injection e; omega)).trans h.a1, (World.cell?_setCell_other _ _ _ _ (fun e => by injection e; omega)).trans h.b0, (World.cell?_setCell_other _ _ _ _ (fun e => by injection e; omega)).trans h.b1, h.box.set u,
   h.bel.setCell (p := ⟨w.heap.size + 1 + 1, i, none⟩) (by show w.heap.size ≤ w.heap.size + 1 + 1; omega) _, by simpa using h.big⟩
theorem UB.fin (h : UB w o1 A1 n1 c1 o2 A2 n2 c2 W) {t : Tr} {v : Value} (ht : InT W W.heap.size t v) (u1 u2 : Value) :
    InT ((W.setCell ⟨w.heap.size + 1 + 1, 0, none⟩ u1).setCell ⟨w.heap.size + 1 + 1, 1, none⟩ u2) ((W.setCell ⟨w.heap.size + 1 + 1, 0, none⟩ u1).setCell ⟨w.heap.size + 1 + 1, 1, none⟩ u2).heap.size t v ∧ Below w.heap.size w ((W.setCell ⟨w.heap.size + 1 + 1, 0, none⟩ u1).setCell ⟨w.heap.size + 1 + 1, 1, none⟩ u2) := store_two h.box ht h.bel (by omega)
end
end Go.Proofs.YtoaglkjpjolacaaGreatDoor.I
namespace Go.Proofs.YtoaglkjpjolacaaGreatDoor.I
open Go.RowKit
theorem mk2_nodes (a b : Tr) : (a.mk2 b).nodes ≤ a.nodes + b.nodes + 1 := by
  cases a with
  | leaf x =>
    cases b with
    | leaf y => simp only [Tr.mk2]; split <;> simp [Tr.nodes]
    | node _ _ => simp [Tr.mk2, Tr.nodes]
  | node _ _ => cases b <;> simp [Tr.mk2, Tr.nodes]
theorem norm_nodes : ∀ t : Tr, t.norm.nodes ≤ t.nodes
  | .leaf _ => Nat.le_refl _
  | .node x y => by
    have := norm_nodes x
    have := norm_nodes y
    have := mk2_nodes x.norm y.norm
    simp only [Tr.norm, Tr.nodes]; omega
theorem mk2_depth (a b : Tr) : (a.mk2 b).depth ≤ max a.depth b.depth + 1 := by
  cases a with
  | leaf x =>
    cases b with
    | leaf y => simp only [Tr.mk2]; split <;> simp [Tr.depth]
    | node _ _ => simp [Tr.mk2, Tr.depth]
  | node _ _ => cases b <;> simp [Tr.mk2, Tr.depth]
theorem norm_depth : ∀ t : Tr, t.norm.depth ≤ t.depth
  | .leaf _ => Nat.le_refl _
  | .node x y => by
    have := norm_depth x
    have := norm_depth y
    have := mk2_depth x.norm y.norm
    simp only [Tr.norm, Tr.depth]; omega
end Go.Proofs.YtoaglkjpjolacaaGreatDoor.I
namespace Go.Proofs.YtoaglkjpjolacaaGreatDoor.I
open Go.RowKit
def fit (t : Tr) : Option Tr := if t.depth ≤ 32 ∧ t.nodes ≤ 2047 then some t else none
theorem fit_of {t : Tr} (h1 : t.depth ≤ 32) (h2 : t.nodes ≤ 2047) : fit t = some t := if_pos ⟨h1, h2⟩
theorem fit_norm {t : Tr} (h : fit t = some t) : fit t.norm = some t.norm := by
  unfold fit at h
  split at h
  · rename_i h1
    exact fit_of (Nat.le_trans (norm_depth t) h1.1) (Nat.le_trans (norm_nodes t) h1.2)
  · cases h
theorem fit_eq {t s : Tr} (h : fit t = some s) : s = t ∧ t.depth ≤ 32 ∧ t.nodes ≤ 2047 := by
  unfold fit at h
  split at h
  · rename_i h1; injection h with h; exact ⟨h.symm, h1⟩
  · cases h
/-- A tree that is handed in, anywhere in memory: the right tree T, or none. -/
def Arg (w : World) (T : Option Tr) (v : Value) : Prop := ∃ o ks A c, v = tv o A ks.len c ∧ Kd w w.heap.size ks A ∧ treeOf o ks = T
theorem Arg.up {w w' : World} {T : Option Tr} {v : Value} (h : Arg w T v) (hb : Below w.heap.size w w') : Arg w' T v := by
  obtain ⟨o, ks, A, c, e, hk, ht⟩ := h
  exact ⟨o, ks, A, c, e, hk.up hb, ht⟩
theorem Arg.form {w : World} {T : Option Tr} {v : Value} (h : Arg w T v) : ∃ o A n c, v = tv o A n c := by
  obtain ⟨o, ks, A, c, e, hk, ht⟩ := h
  exact ⟨o, A, ks.len, c, e⟩
theorem Arg.inT {w : World} {t : Tr} {v : Value} (h : Arg w (some t) v) : InT w w.heap.size t v ∧ t.depth ≤ 32 ∧ t.nodes ≤ 2047 := by
  obtain ⟨o, ks, A, c, rfl, hk, ht⟩ := h
  exact in_treeOf ht hk
theorem Arg.fit {w : World} {t : Tr} {v : Value} (h : Arg w (some t) v) : fit t = some t := fit_of h.inT.2.1 h.inT.2.2
theorem arg_of {w : World} {t : Tr} {v : Value} (h : InT w w.heap.size t v) : Arg w (fit t) v := by
  obtain ⟨o, ks, A, c, rfl, hk, ht⟩ := unT h
  refine ⟨o, ks, A, c, rfl, hk, ?_⟩
  unfold treeOf I.fit
  rw [ht]
  simp only [Option.filter]
  by_cases h1 : t.depth ≤ 32 <;> by_cases h2 : t.nodes ≤ 2047 <;> simp [h1, h2]
theorem right_arg {w : World} {T : Option Tr} {v : Value} (h : Arg w T v) : Calls Tryz.prog 57 #[v] w fun e w' => e = .returned (.bool T.isSome) ∧ Below w.heap.size w w' := by
  obtain ⟨o, ks, A, c, rfl, hk, rfl⟩ := h
  exact right_any o ks A c w hk
theorem rright_arg {w : World} {T : Option Tr} {v : Value} (h : Arg w T v) : Calls Tryz.prog 66 #[v] w fun e w' => e = .returned (.bool T.isSome) ∧ Below w.heap.size w w' := by
  obtain ⟨o, ks, A, c, rfl, hk, rfl⟩ := h
  exact rRight_any o ks A c w hk
theorem norm_arg {w : World} {T : Option Tr} {v : Value} (h : Arg w T v) : Calls Tryz.prog 34 #[v] w (Ans (normR T) w) := by
  obtain ⟨o, ks, A, c, rfl, hk, rfl⟩ := h
  exact pnorm_any o ks A c w hk
theorem rnorm_arg {w : World} {T : Option Tr} {v : Value} (h : Arg w T v) : Calls Tryz.prog 87 #[v] w (Ans (normR T) w) := by
  obtain ⟨o, ks, A, c, rfl, hk, rfl⟩ := h
  exact (rnorm_any o ks A c w hk).mono fun e w' h => h.ans
/-- Variables of two cells: what lies in those of bs, where those of rs are; all of the call's own. -/
structure XS (w : World) (bs : List (Nat × Value × Value)) (rs : List Nat) (W : World) : Prop where
  at0 : ∀ b ∈ bs, W.cell? ⟨b.1, 0, none⟩ = some b.2.1 ∧ W.cell? ⟨b.1, 1, none⟩ = some b.2.2 ∧ b.1 < W.heap.size
  box : ∀ r ∈ rs, Box2 W r ∧ r < W.heap.size ∧ w.heap.size ≤ r
  bel : Below w.heap.size w W
theorem XS.next {w W W' : World} {bs : List (Nat × Value × Value)} {rs : List Nat} (h : XS w bs rs W) (hb : Below W.heap.size W W') : XS w bs rs W' :=
  ⟨fun b hm => ⟨(hb.cell (h.at0 b hm).2.2).trans (h.at0 b hm).1, (hb.cell (h.at0 b hm).2.2).trans (h.at0 b hm).2.1, Nat.lt_of_lt_of_le (h.at0 b hm).2.2 hb.size⟩,
   fun r hm => ⟨(h.box r hm).1.below hb (h.box r hm).2.1, Nat.lt_of_lt_of_le (h.box r hm).2.1 hb.size, (h.box r hm).2.2⟩, h.bel.trans (hb.mono h.bel.size)⟩
theorem XS.drew {w W : World} {bs : List (Nat × Value × Value)} {rs : List Nat} (h : XS w bs rs W) : XS w bs rs W.drew := h.next ((Below.refl W.heap.size W).drew)
theorem XS.begin (w : World) : XS w [] [] w := ⟨by simp, by simp, Below.refl _ _⟩
/-- One more, with its values. -/
theorem XS.boxed {w W : World} {bs : List (Nat × Value × Value)} {rs : List Nat} (h : XS w bs rs W) (u v : Value) : XS w (bs ++ [(W.heap.size, u, v)]) rs (W.alloc (.cells #[u, v] 24)) := by
  have h1 := h.next ((Below.refl W.heap.size W).alloc (Nat.le_refl _) (.cells #[u, v] 24))
  refine ⟨fun b hm => ?_, h1.box, h1.bel⟩
  rcases List.mem_append.1 hm with hm | hm
  · exact h1.at0 b hm
  · simp only [List.mem_singleton] at hm
    subst hm
    exact ⟨by simp [go_sem], by simp [go_sem], by simp⟩
/-- One more, to be written. -/
theorem XS.fresh {w W : World} {bs : List (Nat × Value × Value)} {rs : List Nat} (h : XS w bs rs W) (u v : Value) : XS w bs (rs ++ [W.heap.size]) (W.alloc (.cells #[u, v] 24)) := by
  have h1 := h.next ((Below.refl W.heap.size W).alloc (Nat.le_refl _) (.cells #[u, v] 24))
  refine ⟨h1.at0, fun r hm => ?_, h1.bel⟩
  rcases List.mem_append.1 hm with hm | hm
  · exact h1.box r hm
  · simp only [List.mem_singleton] at hm
    subst hm
    exact ⟨⟨_, heap_alloc_new W _, rfl⟩, by simp, h.bel.size⟩
theorem XS.store {w W : World} {bs : List (Nat × Value × Value)} {rs : List Nat} (h : XS w bs rs W) (g i : Nat) (u : Value) (hg : g ∈ rs) (hd : ∀ b ∈ bs, b.1 ≠ g) : XS w bs rs (W.setCell ⟨g, i, none⟩ u) := by
  refine ⟨fun b hm => ⟨(World.cell?_setCell_other _ _ _ _ (fun e => by injection e with e; exact hd b hm e.symm)).trans (h.at0 b hm).1, (World.cell?_setCell_other _ _ _ _ (fun e => by injection e with e; exact hd b hm e.symm)).trans (h.at0 b hm).2.1, by rw [size_set]; exact (h.at0 b hm).2.2⟩, fun r hm => ⟨?_, by rw [size_set]; exact (h.box r hm).2.1, (h.box r hm).2.2⟩, h.bel.setCell (p := ⟨g, i, none⟩) (h.box g hg).2.2 _⟩
  by_cases e : r = g
  · subst e; exact (h.box r hm).1.set u
  · exact (h.box r hm).1.far e u
/-- The same, with the values that were written. -/
theorem XS.put {w W : World} {bs : List (Nat × Value × Value)} {rs : List Nat} (h : XS w bs rs W) (g : Nat) (u v : Value) (hg : g ∈ rs) (hd : ∀ b ∈ bs, b.1 ≠ g) : XS w (bs ++ [(g, u, v)]) rs ((W.setCell ⟨g, 0, none⟩ u).setCell ⟨g, 1, none⟩ v) := by
  have h1 := (h.store g 0 u hg hd).store g 1 v hg hd
  refine ⟨fun b hm => ?_, h1.box, h1.bel⟩
  rcases List.mem_append.1 hm with hm | hm
  · exact h1.at0 b hm
  · simp only [List.mem_singleton] at hm
    subst hm
    obtain ⟨y0, y1, ⟨d0, d1⟩, f0, f1⟩ := (h.box g hg).1.facts
    refine ⟨?_, ?_, by rw [size_set, size_set]; exact (h.box g hg).2.1⟩
    · simp [go_sem, d0]
    · simp [go_sem, d1]
theorem XS.tree {w W : World} {bs : List (Nat × Value × Value)} {rs : List Nat} (h : XS w bs rs W) {t : Tr} {x : Value} (ht : InT W W.heap.size t x) (g i : Nat) (u : Value) (hg : g ∈ rs) : InT (W.setCell ⟨g, i, none⟩ u) (W.setCell ⟨g, i, none⟩ u).heap.size t x := by
  rw [size_set]; exact InT.set2 (h.box g hg).1 ht
theorem XS.facts {w W : World} {bs : List (Nat × Value × Value)} {rs : List Nat} (h : XS w bs rs W) (g : Nat) (hg : g ∈ rs) : ∃ u0 u1, (W.cell? ⟨g, 0, none⟩ = some u0 ∧ W.cell? ⟨g, 1, none⟩ = some u1) ∧ W.frozen? ⟨g, 0, none⟩ = false ∧ W.frozen? ⟨g, 1, none⟩ = false := (h.box g hg).1.facts
/-- One variable is written at the end. -/
theorem XS.fin {w W : World} {bs : List (Nat × Value × Value)} {rs : List Nat} (h : XS w bs rs W) {t : Tr} {x : Value} (ht : InT W W.heap.size t x) (g : Nat) (hg : g ∈ rs) (u1 u2 : Value) :
    InT ((W.setCell ⟨g, 0, none⟩ u1).setCell ⟨g, 1, none⟩ u2) ((W.setCell ⟨g, 0, none⟩ u1).setCell ⟨g, 1, none⟩ u2).heap.size t x ∧ Below w.heap.size w ((W.setCell ⟨g, 0, none⟩ u1).setCell ⟨g, 1, none⟩ u2) := store_two (h.box g hg).1 ht h.bel (h.box g hg).2.2
end Go.Proofs.YtoaglkjpjolacaaGreatDoor.I
namespace Go.Proofs.YtoaglkjpjolacaaGreatDoor.I
open Go.RowKit
/-- What Split answers. -/
def splitR (T : Option Tr) : (Tr × Tr) × Int := match T with
  | some t => if (fit (splitT t.norm).1).isSome = true ∧ (fit (splitT t.norm).2).isSome = true then (splitT t.norm, 0) else ((.leaf false, .leaf false), 41)
  | none => ((.leaf false, .leaf false), 2)
/-- Two trees and an error's number. -/
def Ans2 (r : (Tr × Tr) × Int) (w : World) (e : Ending) (w' : World) : Prop := ∃ v1 v2, e = .returned (.tuple #[v1, v2, .int .i64 r.2]) ∧ InT w' w'.heap.size r.1.1 v1 ∧ InT w' w'.heap.size r.1.2 v2 ∧ Below w.heap.size w w'
theorem XS.fin2 {w W : World} {bs : List (Nat × Value × Value)} {rs : List Nat} (h : XS w bs rs W) {s t : Tr} {x y : Value} (hs : InT W W.heap.size s x) (ht : InT W W.heap.size t y) (g g' : Nat) (hg : g ∈ rs) (hg' : g' ∈ rs) (z u1 u2 u3 u4 : Value) (k : Int) (hd : ∀ b ∈ bs, b.1 ≠ g) (hd' : ∀ b ∈ bs, b.1 ≠ g') (hz : z = .int .i64 k) :
    Ans2 ((s, t), k) w (.returned (.tuple #[x, y, z])) ((((W.setCell ⟨g, 0, none⟩ u1).setCell ⟨g, 1, none⟩ u2).setCell ⟨g', 0, none⟩ u3).setCell ⟨g', 1, none⟩ u4) := by
  subst hz
  have h1 := (h.store g 0 u1 hg hd).store g 1 u2 hg hd
  have h2 := h1.store g' 0 u3 hg' hd'
  have k1 := fun {q : Tr} {z : Value} (hq : InT W W.heap.size q z) => h2.tree (h1.tree ((h.store g 0 u1 hg hd).tree (h.tree hq g 0 u1 hg) g 1 u2 hg) g' 0 u3 hg') g' 1 u4 hg'
  exact ⟨_, _, rfl, k1 hs, k1 ht, (h2.store g' 1 u4 hg' hd').bel⟩

set_option maxRecDepth 100000 in
set_option maxHeartbeats 1600000 in
theorem split_arg {w : World} {T : Option Tr} {v : Value} (hv : Arg w T v) : Calls Tryz.prog 59 #[v] w (Ans2 (splitR T) w) := by
  obtain ⟨o, A, n, c, rfl⟩ := hv.form
  have HX := Lib.hid ((((XS.begin w).boxed (.bool o) (.slice A n c)).fresh (.bool false) (.slice none 0 0)).fresh (.bool false) (.slice none 0 0))
  simp only [List.nil_append, List.cons_append, World.size_alloc] at HX
  have HV := Lib.hid hv
  clear hv
  have hr := right_arg (HV.out.up HX.out.bel)
  unfold tv at hr ⊢
  go_enter Tryz.func59, Tryz.ntmps59
  go_wp2_with fail
  refine hr.mono ?_
  rintro e w1 ⟨rfl, hb1⟩
  have HX1 := Lib.hid (HX.out.next hb1)
  clear hb1 hr HX
  have f := HX1.out.at0
  simp only [List.mem_cons, List.not_mem_nil, or_false, forall_eq] at f
  obtain ⟨a0, a1, l1⟩ := f
  cases T with
  | none =>
    simp only [Option.isSome_none]
    obtain ⟨y0, y1, ⟨d0, d1⟩, f0, f1⟩ := HX1.out.facts (w.heap.size + 1) (by simp)
    obtain ⟨y2, y3, ⟨d2, d3⟩, f2, f3⟩ := HX1.out.facts (w.heap.size + 1 + 1) (by simp)
    have H := Lib.hid (HX1.out.fin2 (zero_in _ _) (zero_in _ _) (w.heap.size + 1) (w.heap.size + 1 + 1) (by simp) (by simp) (.int .i64 2) (.bool false) (.slice none 0 0) (.bool false) (.slice none 0 0) 2 (by simp) (by simp; omega) rfl)
    clear HX1 l1 a0 a1
    go_wp2
    refine bodyPost_ret (v := .tuple #[tv false none 0 0, tv false none 0 0, .int .i64 2]) (by simp [results, Tryz.f59, go_sem, tv, d0, d1, d2, d3]) rfl ?_
    exact H.out
  | some t =>
    simp only [Option.isSome_some]
    have hc := norm_any t _ w1 (HV.out.up HX1.out.bel).inT.1
    unfold tv at hc
    go_wp2_with fail
    refine hc.mono ?_
    rintro e w2 ⟨v2, rfl, ht2, hb2⟩
    have HX2 := Lib.hid (HX1.out.next hb2)
    have hc2 := split_any t.norm v2 w2 ht2
    clear hb2 hc HX1 a0 a1 l1 ht2
    go_wp2_with fail
    refine hc2.mono ?_
    rintro e w3 ⟨x, y, rfl, hx3, hy3, hb3⟩
    obtain ⟨o1, A1, n1, c1, rfl⟩ := hx3.form
    obtain ⟨o2, A2, n2, c2, rfl⟩ := hy3.form
    have hx4 := HX2.out.next hb3
    have HX5 := Lib.hid ((hx4.boxed (.bool o1) (.slice A1 n1 c1)).boxed (.bool o2) (.slice A2 n2 c2))
    have hb5 : Below w3.heap.size w3 ((w3.alloc (.cells #[.bool o1, .slice A1 n1 c1] 24)).alloc (.cells #[.bool o2, .slice A2 n2 c2] 24)) := ((Below.refl _ w3).alloc (Nat.le_refl _) _).alloc (by simp) _
    have HT1 := Lib.hid (hx3.up hb5)
    have HT2 := Lib.hid (hy3.up hb5)
    simp only [List.nil_append, List.cons_append, World.size_alloc] at HX5
    have hr := right_arg (arg_of HT1.out)
    have hsz : w.heap.size + 3 ≤ w3.heap.size := by have := (hx4.box (w.heap.size + 1 + 1) (by simp)).2.1; omega
    have HSZ := Lib.hid hsz
    clear hb3 hc2 HX2 hx3 hy3 hx4 hb5 hsz
    unfold tv at hr ⊢
    go_wp2_with fail
    refine hr.mono ?_
    rintro e w6 ⟨rfl, hb6⟩
    have HX6 := Lib.hid (HX5.out.next hb6)
    have HU1 := Lib.hid (HT1.out.up hb6)
    have HU2 := Lib.hid (HT2.out.up hb6)
    clear hb6 hr HX5 HT1 HT2
    have f := HX6.out.at0
    simp only [List.mem_cons, List.not_mem_nil, or_false, forall_eq_or_imp, forall_eq] at f
    obtain ⟨⟨a0, a1, l1⟩, ⟨b0, b1, l2⟩, e0, e1, l3⟩ := f
    have HE : Hid (splitR (some t) = if (fit (splitT t.norm).1).isSome = true ∧ (fit (splitT t.norm).2).isSome = true then (splitT t.norm, 0) else ((.leaf false, .leaf false), 41)) := rfl
    obtain ⟨X, hX⟩ : ∃ X, splitT t.norm = X := ⟨_, rfl⟩
    rw [hX] at HE HU1 HU2 ⊢
    clear hX
    cases hf1 : (fit X.1).isSome with
    | false =>
      obtain ⟨y0, y1, ⟨d0, d1⟩, f0, f1⟩ := HX6.out.facts (w.heap.size + 1) (by simp)
      obtain ⟨y2, y3, ⟨d2, d3⟩, f2, f3⟩ := HX6.out.facts (w.heap.size + 1 + 1) (by simp)
      have H := Lib.hid (HX6.out.fin2 (zero_in _ _) (zero_in _ _) (w.heap.size + 1) (w.heap.size + 1 + 1) (by simp) (by simp) (.int .i64 41) (.bool false) (.slice none 0 0) (.bool false) (.slice none 0 0) 41 (by have := HSZ.out; simp; omega) (by have := HSZ.out; simp; omega) rfl)
      rw [hf1] at HE
      clear HX6 HU1 HU2 l1 l2 l3 a0 a1 b0 b1 e0 e1 hf1 HSZ
      go_wp2
      refine bodyPost_ret (v := .tuple #[tv false none 0 0, tv false none 0 0, .int .i64 41]) (by simp [results, Tryz.f59, go_sem, tv, d0, d1, d2, d3]) rfl ?_
      rw [HE.out, if_neg (by simp)]
      exact H.out
    | true =>
      have hr := right_arg (arg_of HU2.out)
      unfold tv at hr
      go_wp2_with fail
      refine hr.mono ?_
      rintro e w7 ⟨rfl, hb7⟩
      have HX7 := Lib.hid (HX6.out.next hb7)
      have HV1 := Lib.hid (HU1.out.up hb7)
      have HV2 := Lib.hid (HU2.out.up hb7)
      clear hb7 hr HX6 HU1 HU2 a0 a1 l1 b0 b1 l2 e0 e1 l3
      have f := HX7.out.at0
      simp only [List.mem_cons, List.not_mem_nil, or_false, forall_eq_or_imp, forall_eq] at f
      obtain ⟨⟨a0, a1, l1⟩, ⟨b0, b1, l2⟩, e0, e1, l3⟩ := f
      rw [hf1] at HE
      clear hf1
      cases hf2 : (fit X.2).isSome with
      | false =>
        obtain ⟨y0, y1, ⟨d0, d1⟩, f0, f1⟩ := HX7.out.facts (w.heap.size + 1) (by simp)
        obtain ⟨y2, y3, ⟨d2, d3⟩, f2, f3⟩ := HX7.out.facts (w.heap.size + 1 + 1) (by simp)
        have H := Lib.hid (HX7.out.fin2 (zero_in _ _) (zero_in _ _) (w.heap.size + 1) (w.heap.size + 1 + 1) (by simp) (by simp) (.int .i64 41) (.bool false) (.slice none 0 0) (.bool false) (.slice none 0 0) 41 (by have := HSZ.out; simp; omega) (by have := HSZ.out; simp; omega) rfl)
        rw [hf2] at HE
        clear HX7 HV1 HV2 l1 l2 l3 a0 a1 b0 b1 e0 e1 hf2 HSZ
        go_wp2
        refine bodyPost_ret (v := .tuple #[tv false none 0 0, tv false none 0 0, .int .i64 41]) (by simp [results, Tryz.f59, go_sem, tv, d0, d1, d2, d3]) rfl ?_
        rw [HE.out, if_neg (by simp)]
        exact H.out
      | true =>
        rw [hf2] at HE
        clear hf2
        have hXD := HX7.out.drew
        have HW1 := Lib.hid (HV1.out.up ((Below.refl w7.heap.size w7).drew))
        have HW2 := Lib.hid (HV2.out.up ((Below.refl w7.heap.size w7).drew))
        clear a0 a1 l1 b0 b1 l2 e0 e1 l3 HX7 HV1 HV2
        go_wp2
        refine wp_region_held_drew (S := fun W => XS w [(w.heap.size, .bool o, .slice A n c), (w3.heap.size, .bool o1, .slice A1 n1 c1), (w3.heap.size + 1, .bool o2, .slice A2 n2 c2)] [w.heap.size + 1, w.heap.size + 1 + 1] W) (by kernel_rfl) hXD (fun hS => ?_)
        clear hXD
        generalize w7.drew = wd at hS HW1 HW2 ⊢
        refine wpAnyH_take (i := 0) (v := ?_) rfl (by kernel_rfl) (by kernel_rfl) (by kernel_rfl) (fun _ _ _ h => h) (Or.inl ⟨by kernel_rfl, fun W hW => ?_⟩) hS ?_
        rotate_left
        · have f := hW.at0
          simp only [List.mem_cons, List.not_mem_nil, or_false, forall_eq_or_imp, forall_eq] at f
          obtain ⟨⟨a0, a1, l1⟩, ⟨b0, b1, l2⟩, e0, e1, l3⟩ := f
          first | (go_simp; done) | (go_simp; with_reducible rfl)
        refine wpAnyH_take (i := 1) (v := ?_) rfl (by kernel_rfl) (by kernel_rfl) (by kernel_rfl) (fun _ _ _ h => h) (Or.inl ⟨by kernel_rfl, fun W hW => ?_⟩) hS ?_
        rotate_left
        · have f := hW.at0
          simp only [List.mem_cons, List.not_mem_nil, or_false, forall_eq_or_imp, forall_eq] at f
          obtain ⟨⟨a0, a1, l1⟩, ⟨b0, b1, l2⟩, e0, e1, l3⟩ := f
          first | (go_simp; done) | (go_simp; with_reducible rfl)
        have HS := Lib.hid hS
        have HFIN := Lib.hid (hS.fin2 HW1.out HW2.out (w.heap.size + 1) (w.heap.size + 1 + 1) (by simp) (by simp) (.int .i64 0) (.bool o1) (.slice A1 n1 c1) (.bool o2) (.slice A2 n2 c2) 0 (by have := HSZ.out; simp; omega) (by have := HSZ.out; simp; omega) rfl)
        have HS1 := Lib.hid ((hS.store (w.heap.size + 1) 0 (.bool o1) (by simp) (by have := HSZ.out; simp; omega)).store (w.heap.size + 1) 1 (.slice A1 n1 c1) (by simp) (by have := HSZ.out; simp; omega))
        have HS2 := Lib.hid ((HS1.out.store (w.heap.size + 1 + 1) 0 (.bool o2) (by simp) (by have := HSZ.out; simp; omega)).store (w.heap.size + 1 + 1) 1 (.slice A2 n2 c2) (by simp) (by have := HSZ.out; simp; omega))
        obtain ⟨y0, y1, ⟨d0, d1⟩, f0, f1⟩ := hS.facts (w.heap.size + 1) (by simp)
        obtain ⟨y2, y3, ⟨d2, d3⟩, f2, f3⟩ := hS.facts (w.heap.size + 1 + 1) (by simp)
        clear hS HS HW1 HW2
        refine wpAnyH_ready (rs := [2]) (by kernel_rfl) (by simp) ?_
        refine AllReadyH.cons rfl (fun K hK => ?_) AllReadyH.nil
        go_simp
        go_wp2
        refine hK.out _ _ HS1.out (fun _ => ?_)
        clear hK K
        refine wpAnyH_ready (rs := [3]) (by kernel_rfl) (by simp) ?_
        refine AllReadyH.cons rfl (fun K hK => ?_) AllReadyH.nil
        go_simp
        go_wp2
        refine hK.out _ _ HS2.out (fun hS => ?_)
        clear hK K HS1 HS2
        refine wpAnyH_take (i := 4) (v := ?_) rfl (by kernel_rfl) (by kernel_rfl) (by kernel_rfl) (fun _ _ _ h => h) (Yields.yieldsIf (Or.inl ⟨by kernel_rfl, ?_⟩)) hS ?_
        rotate_left
        · first | (intro w; go_simp; done) | (intro w; go_simp; with_reducible rfl)
        refine wpAnyH_done (by kernel_rfl) ?_ _
        clear hS
        go_wp2
        refine bodyPost_ret (v := .tuple #[tv o1 A1 n1 c1, tv o2 A2 n2 c2, .int .i64 0]) (by simp [results, Tryz.f59, go_sem, tv, d0, d1, d2, d3]) rfl ?_
        rw [HE.out, if_pos ⟨trivial, trivial⟩]
        exact HFIN.out
end Go.Proofs.YtoaglkjpjolacaaGreatDoor.I
